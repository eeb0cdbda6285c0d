/- A manager of diagrams: its memory, and what its calls leave. -/
import Derived.Test.YtdgjbbcalffbcaaNWalk
import Derived.Test.YtdgjbbcalffbcaaMGet
import Derived.Test.YtdgjbbcalffbcaaBKeys
namespace Go.Proofs.Ytdgjbbcalffbcaa
open Go.RowKit
attribute [local go_sem ↓] Go.wp_at_zero Go.wp_at_succ

section
variable {W W1 : World} {own own1 : Nat → Prop} {p lim : Nat} {L : List Nd}
/-- What does not touch an arena's blocks leaves it. -/
theorem ArenaR.only {P cn cp : Nat} {T : Nat → Nat} {An Ap : Option Addr} (h : ArenaR W own p lim L P T An Ap cn cp) (ho : Only own1 W W1) (hd : ∀ i, own i → ¬ own1 i) : ArenaR W1 own p lim L P T An Ap cn cp :=
  ⟨ho.blk h.blk (hd _ h.mine), h.mine, h.mineN, h.mineP, fun i hi => Nat.lt_of_lt_of_le (h.old i hi) ho.size, ho.row h.rowN (fun g e => hd _ (h.mineN g e)), ho.row h.rowP (fun g e => hd _ (h.mineP g e)), h.limit, h.few, h.room⟩
theorem Arena.only (h : Arena W own p lim L) (ho : Only own1 W W1) (hd : ∀ i, own i → ¬ own1 i) : Arena W1 own p lim L := by
  obtain ⟨P, T, An, Ap, cn, cp, hR, h⟩ := h
  exact ⟨P, T, An, Ap, cn, cp, hR.only ho hd, h⟩
theorem Arena.right (h : Arena W own p lim L) : RightL L := by
  obtain ⟨P, T, An, Ap, cn, cp, hR, -, -, hu⟩ := h
  exact hu
end

/-- A manager: block m; its arena p; its memo q, whose places are block g. -/
structure MgR (W : World) (own : Nat → Prop) (m lim : Nat) (L : List Nd) (p q g n c : Nat) (T : Nat → Mem.Pl) (ownA : Nat → Prop) : Prop where
  blk : Blk W m 62 #[.pointer (some ⟨p, 0, none⟩), .pointer (some ⟨q, 0, none⟩)]
  arena : Arena W ownA p lim L
  memo : Mem.MemoR W q g n c T
  sound : SoundT L T
  bools : AllB L
  fits : L.length ≤ lim
  mineA : ∀ i, ownA i → own i
  mineQ : own q
  mineG : own g
  farQ : ¬ ownA q
  farG : ¬ ownA g
  farM : ¬ own m
  old : ∀ i, own i → i < W.heap.size
def Mg (W : World) (own : Nat → Prop) (m lim : Nat) (L : List Nd) : Prop := ∃ p q g n c T ownA, MgR W own m lim L p q g n c T ownA
/-- What a manager's call leaves: only its own blocks, and new ones, are other than they were. -/
def Went (own : Nat → Prop) (W : World) (own' : Nat → Prop) (W' : World) : Prop := Only own W W' ∧ ∀ i, own' i → own i ∨ W.heap.size ≤ i
section
variable {W W1 W2 : World} {own own1 own2 : Nat → Prop} {m lim : Nat} {L L1 : List Nd}
theorem Mg.right (h : Mg W own m lim L) : RightL L := by
  obtain ⟨p, q, g, n, c, T, ownA, h⟩ := h
  exact h.arena.right
theorem Mg.bools (h : Mg W own m lim L) : AllB L := by
  obtain ⟨p, q, g, n, c, T, ownA, h⟩ := h
  exact h.bools
theorem Mg.fits (h : Mg W own m lim L) : L.length ≤ lim := by
  obtain ⟨p, q, g, n, c, T, ownA, h⟩ := h
  exact h.fits
theorem Mg.old (h : Mg W own m lim L) : ∀ i, own i → i < W.heap.size := by
  obtain ⟨p, q, g, n, c, T, ownA, h⟩ := h
  exact h.old
theorem MgR.below {p q g n c : Nat} {T : Nat → Mem.Pl} {ownA : Nat → Prop} (h : MgR W own m lim L p q g n c T ownA) (hb : Below W.heap.size W W1) : MgR W1 own m lim L p q g n c T ownA :=
  ⟨h.blk.below hb h.blk.lt, h.arena.below hb, h.memo.below hb, h.sound, h.bools, h.fits, h.mineA, h.mineQ, h.mineG, h.farQ, h.farG, h.farM, fun i hi => Nat.lt_of_lt_of_le (h.old i hi) hb.size⟩
theorem Mg.below (h : Mg W own m lim L) (hb : Below W.heap.size W W1) : Mg W1 own m lim L := by
  obtain ⟨p, q, g, n, c, T, ownA, h⟩ := h
  exact ⟨p, q, g, n, c, T, ownA, h.below hb⟩
theorem Went.refl (own : Nat → Prop) (W : World) : Went own W own W := ⟨Only.refl _ _, fun _ h => .inl h⟩
theorem Went.trans (h : Went own W own1 W1) (k : Went own1 W1 own2 W2) : Went own W own2 W2 :=
  ⟨h.1.trans k.1 h.2, fun i hi => (k.2 i hi).elim (h.2 i) (fun g => .inr (Nat.le_trans h.1.size g))⟩
theorem Went.of_below (hb : Below W.heap.size W W1) (own : Nat → Prop) : Went own W own W1 := ⟨Only.of_below hb own, fun _ h => .inl h⟩
theorem Went.size (h : Went own W own1 W1) : W.heap.size ≤ W1.heap.size := h.1.size
theorem Went.blk {g : Nat} {t : TypeId} {cs : Array Value} (h : Went own W own1 W1) (hb : Blk W g t cs) (hn : ¬ own g) : Blk W1 g t cs := h.1.blk hb hn
theorem Went.cell (h : Went own W own1 W1) {b o : Nat} (hb : b < W.heap.size) (hn : ¬ own b) : W1.cell? ⟨b, o, none⟩ = W.cell? ⟨b, o, none⟩ := by
  have := h.1.2.2.2.2 b hb hn
  simp [World.cell?, this]
theorem Went.not (h : Went own W own1 W1) {g : Nat} (hn : ¬ own g) (hg : g < W.heap.size) : ¬ own1 g := fun hi => (h.2 g hi).elim hn (by omega)
/-- A block that is new since the manager was. -/
theorem new_not (h : Mg W own m lim L) {g : Nat} (hg : W.heap.size ≤ g) : ¬ own g := fun hi => by have := h.old g hi; omega
end
/-- What an op tells: a ref that stands for F; or that there is no room. -/
def Told (lim : Nat) (F : Nat → Bool) (L' : List Nd) (e : Ending) (w' : World) : Prop :=
  ∃ (x : Int) (ev : Value), e = .returned (.tuple #[.int .i64 x, ev]) ∧ ((ev = .nilIface ∧ Tells L' F x) ∨ (x = 0 ∧ ∃ (b : Nat) (a : Int), ev = .iface 118 (.pointer (some ⟨b, 0, none⟩)) ∧ Blk w' b 120 #[.string ⟨#[109, 107]⟩, .int .i64 a, .iface 54 (.int .i64 50)] ∧ lim ≤ L'.length))
theorem told_ref {lim : Nat} {F : Nat → Bool} {L' : List Nd} {w' : World} {r : Int} (h : Tells L' F r) : Told lim F L' (.returned (.tuple #[.int .i64 r, .nilIface])) w' := ⟨r, _, rfl, .inl ⟨rfl, h⟩⟩
theorem told_full {lim : Nat} {F : Nat → Bool} {L' : List Nd} {w' : World} {b : Nat} {a : Int} (h : Blk w' b 120 #[.string ⟨#[109, 107]⟩, .int .i64 a, .iface 54 (.int .i64 50)]) (hl : lim ≤ L'.length) : Told lim F L' (.returned (.tuple #[.int .i64 0, .iface 118 (.pointer (some ⟨b, 0, none⟩))])) w' := ⟨0, _, rfl, .inr ⟨rfl, b, a, rfl, h, hl⟩⟩
def RetOp (F : Nat → Bool) (v : Nat) (own : Nat → Prop) (m lim : Nat) (L : List Nd) (W : World) (e : Ending) (w' : World) : Prop :=
  ∃ (own' : Nat → Prop) (L' : List Nd), Mg w' own' m lim L' ∧ Went own W own' w' ∧ Grew v L L' ∧ Told lim F L' e w'

/-! ### The least calls -/
section
variable {W : World} {own : Nat → Prop} {m lim : Nat} {L : List Nd}
theorem arenaA_any (h : Mg W own m lim L) : ∃ p, Calls Try.prog 15 #[.pointer (some ⟨m, 0, none⟩)] W (RetW (.pointer (some ⟨p, 0, none⟩)) W) ∧ ∃ ownA, Arena W ownA p lim L := by
  obtain ⟨p, q, g, n, c, T, ownA, h⟩ := h
  refine ⟨p, ?_, ownA, h.arena⟩
  have c0 : W.cell? ⟨m, 0, none⟩ = some (.pointer (some ⟨p, 0, none⟩)) := h.blk.cell 0
  clear h
  go_enter Try.func15, Try.ntmps15
  go_wp2_with fail
  go_ret
  exact ⟨rfl, rfl⟩
/-- half, of what is no node of v. -/
def RetI (x : Int) (w : World) (e : Ending) (w' : World) : Prop := e = .returned (.int .i64 x) ∧ Below w.heap.size w w'
theorem getB_any {r : Int} {p : Nat} {ownA : Nat → Prop} (h : Arena W ownA p lim L) : (holdsB L.length r = false ∧ Calls Try.prog 56 #[.pointer (some ⟨p, 0, none⟩), .int .i64 r] W fun e w' => e = .returned (.tuple #[.agg #[.int .i64 0, .int .i64 0, .int .i64 0], .bool false]) ∧ Below W.heap.size W w') ∨
    ∃ (k : Nat) (x : Nd), r = (k : Int) ∧ L[k]? = some x ∧ Calls Try.prog 56 #[.pointer (some ⟨p, 0, none⟩), .int .i64 r] W fun e w' => e = .returned (.tuple #[.agg #[.int .i64 x.1, .int .i64 x.2.1, .int .i64 x.2.2], .bool true]) ∧ Below W.heap.size W w' := by
  obtain ⟨P, T, An, Ap, cn, cp, hR, -⟩ := h
  cases hb : holdsB L.length r
  · exact .inl ⟨rfl, get_none hR hb⟩
  · obtain ⟨k, x, rfl, hx, -⟩ := holds_at hb
    exact .inr ⟨k, x, rfl, hx, get_some hR hx⟩
set_option maxRecDepth 100000 in
set_option maxHeartbeats 1600000 in
theorem half_any (h : Mg W own m lim L) (r v : Int) (on : Bool) : Calls Try.prog 64 #[.pointer (some ⟨m, 0, none⟩), .int .i64 r, .int .i64 v, .bool on] W (RetI (halfP L r v on) W) := by
  obtain ⟨p, q, g, n, c, T, ownA, h⟩ := h
  have c0 : W.cell? ⟨m, 0, none⟩ = some (.pointer (some ⟨p, 0, none⟩)) := h.blk.cell 0
  rcases getB_any (r := r) h.arena with ⟨hb, HG⟩ | ⟨k, x, rfl, hx, HG⟩
  · have HG := Lib.hid HG
    rw [show halfP L r v on = r from halfP_out on (fun ⟨h1, h2, _⟩ => by unfold holdsB at hb; simp at hb; omega)]
    clear h hb
    go_enter Try.func64, Try.ntmps64
    go_wp2_with (go_at_call 56; ((with_reducible refine HG.out.mono ?_); rintro e w1 ⟨rfl, hb1⟩); have HB1 := Lib.hid hb1; clear hb1)
    go_ret
    exact ⟨rfl, HB1.out.alloc HB1.out.size _⟩
  · have HG := Lib.hid HG
    by_cases hv : x.1 = v
    · rw [show halfP L k v on = if on = true then x.2.2 else x.2.1 from hv ▸ halfP_at on hx]
      obtain ⟨x1, x2, x3⟩ := x
      dsimp only at *
      subst hv
      clear h hx
      cases on
      all_goals
        go_enter Try.func64, Try.ntmps64
        go_wp2_with (go_at_call 56; ((with_reducible refine HG.out.mono ?_); rintro e w1 ⟨rfl, hb1⟩); have HB1 := Lib.hid hb1; clear hb1)
        go_ret
        exact ⟨rfl, HB1.out.alloc HB1.out.size _⟩
    · rw [show halfP L k v on = k from halfP_out on (fun ⟨_, _, h3⟩ => hv (by rw [varP_at hx] at h3; exact h3))]
      obtain ⟨x1, x2, x3⟩ := x
      dsimp only at *
      clear h hx
      go_enter Try.func64, Try.ntmps64
      go_wp2_with (go_at_call 56; ((with_reducible refine HG.out.mono ?_); rintro e w1 ⟨rfl, hb1⟩); have HB1 := Lib.hid hb1; clear hb1)
      go_ret
      exact ⟨rfl, HB1.out.alloc HB1.out.size _⟩
end
end Go.Proofs.Ytdgjbbcalffbcaa
