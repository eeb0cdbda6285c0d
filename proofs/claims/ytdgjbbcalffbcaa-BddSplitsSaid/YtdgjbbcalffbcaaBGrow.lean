/- The contract of grow, whatever both halves are reckoned by. -/
import Derived.Test.YtdgjbbcalffbcaaBTop
namespace Go.Proofs.Ytdgjbbcalffbcaa
open Go.RowKit
attribute [local go_sem ↓] Go.wp_at_zero Go.wp_at_succ

/-- A manager, with where its arena and its memo are. -/
def MG (W : World) (own : Nat → Prop) (m lim : Nat) (L : List Nd) (p q : Nat) : Prop := ∃ g n c T ownA, MgR W own m lim L p q g n c T ownA
section
variable {W W1 : World} {own : Nat → Prop} {m lim p q : Nat} {L : List Nd}
theorem mg_at (h : Mg W own m lim L) : ∃ p q, MG W own m lim L p q ∧ W.cell? ⟨m, 0, none⟩ = some (.pointer (some ⟨p, 0, none⟩)) ∧ W.cell? ⟨m, 1, none⟩ = some (.pointer (some ⟨q, 0, none⟩)) ∧ m < W.heap.size ∧ ¬ own m := by
  obtain ⟨p, q, g, n, c, T, ownA, h⟩ := h
  exact ⟨p, q, ⟨g, n, c, T, ownA, h⟩, h.blk.cell 0, h.blk.cell 1, h.blk.lt, h.farM⟩
theorem MG.mg (h : MG W own m lim L p q) : Mg W own m lim L := by
  obtain ⟨g, n, c, T, ownA, h⟩ := h
  exact ⟨p, q, g, n, c, T, ownA, h⟩
theorem MG.below (h : MG W own m lim L p q) (hb : Below W.heap.size W W1) : MG W1 own m lim L p q := by
  obtain ⟨g, n, c, T, ownA, h⟩ := h
  exact ⟨g, n, c, T, ownA, h.below hb⟩
/-- What the memo tells of a key. -/
theorem mg_get (h : MG W own m lim L p q) (k1 k2 k3 : Int) :
    (∃ val, keyOk L (k1, k2, k3) val ∧ ∀ w1, Below W.heap.size W w1 → Calls Try.prog 57 #[.pointer (some ⟨q, 0, none⟩), .agg #[.int .i64 k1, .int .i64 k2, .int .i64 k3]] w1 fun e w' => e = .returned (.tuple #[.int .i64 val, .bool true]) ∧ Below w1.heap.size w1 w') ∨
    (∃ val, ∀ w1, Below W.heap.size W w1 → Calls Try.prog 57 #[.pointer (some ⟨q, 0, none⟩), .agg #[.int .i64 k1, .int .i64 k2, .int .i64 k3]] w1 fun e w' => e = .returned (.tuple #[.int .i64 val, .bool false]) ∧ Below w1.heap.size w1 w') := by
  obtain ⟨g, n, c, T, ownA, h⟩ := h
  have hc : ∀ w1, Below W.heap.size W w1 → Calls Try.prog 57 #[.pointer (some ⟨q, 0, none⟩), .agg #[.int .i64 k1, .int .i64 k2, .int .i64 k3]] w1 (Mem.RetGet n T (k1, k2, k3) w1) := fun w1 hb => Mem.get_any (h.memo.below hb)
  obtain ⟨val, known, e⟩ : ∃ val known, Mem.getP n T (k1, k2, k3) = (val, known) := ⟨_, _, rfl⟩
  cases known
  · refine .inr ⟨val, fun w1 hb => ?_⟩
    have := hc w1 hb
    unfold Mem.RetGet at this
    rw [e] at this
    exact this
  · refine .inl ⟨val, sound_get h.sound e, fun w1 hb => ?_⟩
    have := hc w1 hb
    unfold Mem.RetGet at this
    rw [e] at this
    exact this
/-- What is put into the memo, if it is so, is no harm. -/
theorem mg_put (h : MG W own m lim L p q) {k1 k2 k3 val : Int} (hk : keyOk L (k1, k2, k3) val) :
    Calls Try.prog 58 #[.pointer (some ⟨q, 0, none⟩), .agg #[.int .i64 k1, .int .i64 k2, .int .i64 k3], .int .i64 val] W fun e w' => (∃ u, e = .returned u) ∧ Mg w' own m lim L ∧ Went own W own w' := by
  obtain ⟨g, n, c, T, ownA, h⟩ := h
  refine (Mem.put_any h.memo).mono ?_
  rintro e w' ⟨he, hm, ho⟩
  have hq : ∀ i, i = q ∨ i = g → own i := fun i hi => hi.elim (fun e => e ▸ h.mineQ) (fun e => e ▸ h.mineG)
  refine ⟨he, ⟨p, q, g, n, c, Mem.putP n T ((k1, k2, k3), val), ownA, ?_⟩, ho.mono fun i hi => .inl (hq i hi), fun i hi => .inl hi⟩
  exact ⟨ho.blk h.blk (fun hi => h.farM (hq m hi)), h.arena.only ho (fun i hi hj => hj.elim (fun e => h.farQ (e ▸ hi)) (fun e => h.farG (e ▸ hi))), hm, sound_put h.sound n hk, h.bools, h.fits, h.mineA, h.mineQ, h.mineG, h.farQ, h.farG, h.farM, fun i hi => Nat.lt_of_lt_of_le (h.old i hi) ho.size⟩
/-- What Mk makes of two halves. -/
def RetMkB (F0 F1 : Nat → Bool) (v : Nat) (lo hi : Int) (own : Nat → Prop) (m lim : Nat) (L : List Nd) (W : World) (e : Ending) (w' : World) : Prop :=
  ∃ (own' : Nat → Prop) (L' : List Nd), Mg w' own' m lim L' ∧ Went own W own' w' ∧ (L' = L ∨ L' = L ++ [((v : Int), lo, hi)]) ∧ Told lim (fun b => if b.testBit v = true then F1 b else F0 b) L' e w'
theorem mg_mk (h : MG W own m lim L p q) (hl : lim ≤ 65536) {v : Nat} {lo hi : Int} {F0 F1 : Nat → Bool} (hv : v < 12) (h0 : Tells L F0 lo) (h1 : Tells L F1 hi) (v0 : (v : Int) < varP L lo) (v1 : (v : Int) < varP L hi) :
    Calls Try.prog 49 #[.pointer (some ⟨p, 0, none⟩), .int .i64 v, .int .i64 lo, .int .i64 hi] W (RetMkB F0 F1 v lo hi own m lim L W) := by
  obtain ⟨g, n, c, T, ownA, h⟩ := h
  have hfit := h.fits
  refine (mk_any h.arena (v := (v : Int)) (lo := lo) (hi := hi) (by omega)).mono ?_
  rintro e w' ⟨ev, ownA', rfl, he, hA', ho, hw⟩
  obtain ⟨L', r, cc, hm⟩ : ∃ L' r cc, mkP lim L v lo hi = (L', r, cc) := ⟨_, _, _, rfl⟩
  have hmore := mkP_more lim L v lo hi
  have hlim := mkP_lim hfit v lo hi
  rw [hm] at he hA' hmore hlim ⊢
  dsimp only at he hA' hmore hlim ⊢
  obtain ⟨M, rfl⟩ := hmore
  have hAR := hA'.right
  have far : ∀ i, i < W.heap.size → ¬ ownA i → ¬ ownA' i := fun i hi hn hj => (hw i hj).elim hn (by omega)
  have hw' : Went own W (fun i => own i ∨ ownA' i) w' := ⟨ho.mono fun i hi => .inl (h.mineA i hi), fun i hi => hi.elim .inl (fun hj => (hw i hj).imp (h.mineA i) id)⟩
  have mg : AllB (L ++ M) → Mg w' (fun i => own i ∨ ownA' i) m lim (L ++ M) := fun hB => by
    have hq := h.memo.blk.lt
    have hg := h.memo.glt
    have hmb := h.blk.lt
    refine ⟨p, q, g, n, c, T, ownA', ho.blk h.blk (fun hi => h.farM (h.mineA _ hi)), hA', h.memo.only ho h.farQ h.farG, sound_more h.arena.right M hAR h.sound, hB, hlim, fun i hi => .inr hi, .inl h.mineQ, .inl h.mineG, far q hq h.farQ, far g hg h.farG, fun hi => hi.elim h.farM (far m hmb (fun hj => h.farM (h.mineA _ hj))), fun i hi => hi.elim (fun hj => Nat.lt_of_lt_of_le (h.old i hj) ho.size) (fun hj => ?_)⟩
    obtain ⟨P, T, An, Ap, cn, cp, hR, -⟩ := hA'
    exact hR.old i hj
  rcases mkP_b h.arena.right h.bools hv h0 h1 v0 v1 hm with ⟨rfl, hL, hB, hT⟩ | ⟨rfl, hL, rfl, hll⟩
  · refine ⟨_, L ++ M, mg hB, hw', hL, ?_⟩
    rcases he with ⟨-, rfl⟩ | ⟨h, -⟩
    · exact told_ref hT
    · exact absurd rfl h
  · rcases he with ⟨h, -⟩ | ⟨-, b, hb, rfl, hk⟩
    · cases h
    · refine ⟨_, L ++ M, mg (by rw [hL]; exact h.bools), hw', .inl hL, told_full hk (by rw [hL]; exact hll)⟩
end
end Go.Proofs.Ytdgjbbcalffbcaa
