/- Words beside an arena: what its blocks keep; Mk with only its own blocks; a script's pieces; nodes by name. -/
import Derived.Test.YtlddelnbjihhgaaDoorNWalk
import Derived.Test.YtlddelnbjihhgaaDoorNBuildMath
import Derived.OwnWalk
namespace Go.Proofs.YtlddelnbjihhgaaDoor
open Go.RowKit
attribute [local go_sem ↓] Go.wp_at_zero Go.wp_at_succ

/-- A row of a script's pieces. -/
def Ops (w : World) (A : Option Addr) (m : Nat) (f : Nat → Nd) : Prop :=
  0 < m → ∃ b off, A = some ⟨b, off, none⟩ ∧ b < w.heap.size ∧ ∀ j, j < m → w.cell? ⟨b, off + j * 3, none⟩ = some (.int .i64 (f j).1) ∧ w.cell? ⟨b, off + j * 3 + 1, none⟩ = some (.int .i64 (f j).2.1) ∧ w.cell? ⟨b, off + j * 3 + 2, none⟩ = some (.int .i64 (f j).2.2)
theorem Ops.below {w w' : World} {A : Option Addr} {m : Nat} {f : Nat → Nd} (h : Ops w A m f) (hb : Below w.heap.size w w') : Ops w' A m f := fun hm => by
  obtain ⟨b, off, rfl, hlt, hc⟩ := h hm
  refine ⟨b, off, rfl, Nat.lt_of_lt_of_le hlt hb.size, fun j hj => ?_⟩
  obtain ⟨h0, h1, h2⟩ := hc j hj
  exact ⟨(hb.cell (p := ⟨b, _, none⟩) hlt).trans h0, (hb.cell (p := ⟨b, _, none⟩) hlt).trans h1, (hb.cell (p := ⟨b, _, none⟩) hlt).trans h2⟩
theorem Ops.named {W : World} {A : Option Addr} {m i : Nat} {f : Nat → Nd} (h : Ops W A m f) (hi : i < m) : ∃ (b off : Nat) (x1 x2 x3 : Int), A = some ⟨b, off, none⟩ ∧ b < W.heap.size ∧ f i = (x1, x2, x3) ∧ W.cell? ⟨b, off + i * 3, none⟩ = some (.int .i64 x1) ∧ W.cell? ⟨b, off + i * 3 + 1, none⟩ = some (.int .i64 x2) ∧ W.cell? ⟨b, off + i * 3 + 2, none⟩ = some (.int .i64 x3) := by
  obtain ⟨b, off, hA, hlt, hc⟩ := h (by omega)
  obtain ⟨h0, h1, h2⟩ := hc i hi
  exact ⟨b, off, _, _, _, hA, hlt, rfl, h0, h1, h2⟩

theorem wpList_append_at {P : Program} {w : World} {ops : Array Oper} {rest : List Oper} {o : Oper} {a : Act} {Q : Exit → Act → World → Prop} (hgd : o.guard = none) (s x : Operand) (t : TypeId)
    (ho : o.op = .call { callee := .builtin .append, args := #[s, x], argTypes := #[t, t] })
    (base : Nat) (e : TypeId) (i : TypeInfo) (z : Value) (size bytes : Nat) (ht : P.underlying t = some (.slice e)) (hi : P.info? e = some i) (hz : i.zero = some z)
    (hsize : i.size = size) (hby : i.bytes = bytes) (hzs : z.cells.size = size) (hsz : 0 < size)
    (v : Value) (n : Nat) (xs : List Value) (hs : a.eval s = v) (hown : w.ownsRow base e size v n xs)
    (ad : Addr) (m c : Nat) (news : List Value) (hx : a.eval x = .slice (some ad) m c) (hl : news.length = m * size) (hnews : ∀ j u, news[j]? = some u → w.cell? (ad.add j) = some u) (h1 : ∀ u ∈ news, u.oneCell' = true)
    (h63 : n + m ≤ maxLen) (hbytes : (n + m) * bytes ≤ 140737488355328) (hbase : base ≤ w.heap.size)
    (h : ∀ v' w', w'.ownsRow base e size v' (n + m) (xs ++ news) → w.grownBy w' v.ownBlock → (v'.ownBlock = v.ownBlock ∨ v'.ownBlock = some w.heap.size) → wpList P ops Q rest (a.put o.dst v') w') : wpList P ops Q (o :: rest) a w :=
  wpList_plain hgd fun _ hK => wp_append_at s x t ho base e i z size bytes ht hi hz hsize hby hzs hsz v n xs hs hown ad m c news hx hl hnews h1 h63 hbytes hbase fun v' w' h2 h3 h4 => hK _ _ (h v' w' h2 h3 h4)

section
variable {W W1 : World} {own own1 : Nat → Prop} {p lim : Nat} {L : List Nd}
/-- What does not touch an arena's blocks leaves it. -/
theorem ArenaR.only {P cn cp : Nat} {T : Nat → Nat} {An Ap : Option Addr} (h : ArenaR W own p lim L P T An Ap cn cp) (ho : Only own1 W W1) (hd : ∀ i, own i → ¬ own1 i) : ArenaR W1 own p lim L P T An Ap cn cp :=
  ⟨ho.blk h.blk (hd _ h.mine), h.mine, h.mineN, h.mineP, fun i hi => Nat.lt_of_lt_of_le (h.old i hi) ho.size, ho.row h.rowN (fun g e => hd _ (h.mineN g e)), ho.row h.rowP (fun g e => hd _ (h.mineP g e)), h.limit, h.few, h.room⟩
theorem Arena.only (h : Arena W own p lim L) (ho : Only own1 W W1) (hd : ∀ i, own i → ¬ own1 i) : Arena W1 own p lim L := by
  obtain ⟨P, T, An, Ap, cn, cp, hR, h⟩ := h
  exact ⟨P, T, An, Ap, cn, cp, hR.only ho hd, h⟩
theorem Arena.old (h : Arena W own p lim L) : ∀ i, own i → i < W.heap.size := by
  obtain ⟨P, T, An, Ap, cn, cp, hR, -⟩ := h
  exact hR.old
theorem Arena.right (h : Arena W own p lim L) : RightL L := by
  obtain ⟨P, T, An, Ap, cn, cp, hR, -, -, hu⟩ := h
  exact hu
theorem Arena.few (h : Arena W own p lim L) : L.length ≤ 4000 := by
  obtain ⟨P, T, An, Ap, cn, cp, hR, -⟩ := h
  exact hR.few
/-- Mk, with what it touches. -/
def RetOk (own : Nat → Prop) (p lim : Nat) (L' : List Nd) (r : Int) (w : World) (e : Ending) (w' : World) : Prop := ∃ own' : Nat → Prop, e = .returned (.tuple #[.int .i64 r, .nilIface]) ∧ Arena w' own' p lim L' ∧ Only own w w' ∧ ∀ i, own' i → own i ∨ w.heap.size ≤ i
def RetBad (own : Nat → Prop) (p lim : Nat) (L' : List Nd) (v r c : Int) (w : World) (e : Ending) (w' : World) : Prop := ∃ (own' : Nat → Prop) (b : Nat), e = .returned (.tuple #[.int .i64 r, .iface 165 (.pointer (some ⟨b, 0, none⟩))]) ∧ Blk w' b 167 #[.string ⟨#[109, 107]⟩, .int .i64 v, .iface 53 (.int .i64 c)] ∧ Arena w' own' p lim L' ∧ Only own w w' ∧ ∀ i, own' i → own i ∨ w.heap.size ≤ i
theorem mk_ok {L' : List Nd} {v lo hi r : Int} (hA : Arena W own p lim L) (hfew : L.length + 1 ≤ 4000) (hm : mkP lim L v lo hi = (L', r, 0)) :
    Calls Tryd.prog 65 #[.pointer (some ⟨p, 0, none⟩), .int .i64 v, .int .i64 lo, .int .i64 hi] W (RetOk own p lim L' r W) := by
  refine (mk_any hA hfew).mono ?_
  rintro e w' ⟨ev, own', rfl, he, hA', ho, hw⟩
  rw [hm] at he hA' ⊢
  rcases he with ⟨-, rfl⟩ | ⟨h, -⟩
  · exact ⟨own', rfl, hA', ho, hw⟩
  · exact absurd rfl h
theorem mk_bad {L' : List Nd} {v lo hi r c : Int} (hA : Arena W own p lim L) (hfew : L.length + 1 ≤ 4000) (hm : mkP lim L v lo hi = (L', r, c)) (hc : c ≠ 0) :
    Calls Tryd.prog 65 #[.pointer (some ⟨p, 0, none⟩), .int .i64 v, .int .i64 lo, .int .i64 hi] W (RetBad own p lim L' v r c W) := by
  refine (mk_any hA hfew).mono ?_
  rintro e w' ⟨ev, own', rfl, he, hA', ho, hw⟩
  rw [hm] at he hA' ⊢
  rcases he with ⟨h, -⟩ | ⟨-, b, hb, rfl, hk⟩
  · exact absurd h hc
  · exact ⟨own', b, rfl, hk, hA', ho, hw⟩
end

theorem one_at (w : World) (a : Value) (t : TypeId) : ∀ (j : Nat) (u : Value), [a][j]? = some u → (w.alloc (.cells #[a] t)).cell? ((⟨w.heap.size, 0, none⟩ : Addr).add j) = some u := fun j u h => by
  rw [Addr.add_lit, Nat.zero_add]
  exact ((Blk.new w t #[a]).cell j).trans (by simpa using h)
theorem one_one (x : Int) : ∀ u ∈ [Value.int .i64 x], u.oneCell' = true := by
  intro u hu
  simp at hu
  rcases hu with rfl
  rfl
theorem cellsL_one (L : List Nd) : ∀ u ∈ cellsL L, u.oneCell' = true := fun u hu => by
  unfold cellsL at hu
  obtain ⟨x, -, hx⟩ := List.mem_flatMap.1 hu
  simp at hx
  rcases hx with rfl | rfl | rfl <;> rfl
theorem node_named {L : List Nd} {k : Nat} (hk : k < L.length) : ∃ x1 x2 x3, L[k]? = some (x1, x2, x3) := ⟨_, _, _, List.getElem?_eq_getElem hk⟩
end Go.Proofs.YtlddelnbjihhgaaDoor
