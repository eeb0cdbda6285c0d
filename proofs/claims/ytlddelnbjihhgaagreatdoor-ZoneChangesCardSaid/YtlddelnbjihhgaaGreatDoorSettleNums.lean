/- What settle makes of a row of bounds, cell by cell. Nothing of the program is walked here. -/
import Derived.Test.YtlddelnbjihhgaaGreatDoorFill
namespace Go.Proofs.YtlddelnbjihhgaaGreatDoor

/-- One bound put in. -/
def upd (C : Mat) (i j : Nat) (v : Int) : Mat := fun a b => if a = i ∧ b = j then v else C a b
theorem flat_at {m : Nat} (C : Mat) {i j : Nat} (hi : i < m) (hj : j < m) : (flatL m C)[i * m + j]? = some (C i j) := by
  unfold flatL
  rw [List.getElem?_map, List.getElem?_range (spot_lt hi hj)]
  show some (C ((i * m + j) / m) ((i * m + j) % m)) = _
  rw [Nat.mul_comm i m, Nat.mul_add_div (by omega), Nat.mul_add_mod, Nat.div_eq_of_lt hj, Nat.mod_eq_of_lt hj, Nat.add_zero]
theorem flat_congr {m : Nat} {C D : Mat} (h : Same m C D) : flatL m C = flatL m D := by
  unfold flatL
  refine List.map_congr_left fun t ht => ?_
  have ht : t < m * m := by simpa using ht
  have hm : 0 < m := by
    rcases Nat.eq_zero_or_pos m with e | e
    · subst e; omega
    · exact e
  exact h _ _ (Nat.div_lt_of_lt_mul ht) (Nat.mod_lt _ hm)
theorem spot_inj {m i j a b : Nat} (hj : j < m) (hb : b < m) (h : i * m + j = a * m + b) : i = a ∧ j = b := by
  have h1 : (i * m + j) / m = i := by rw [Nat.mul_comm i m, Nat.mul_add_div (by omega), Nat.div_eq_of_lt hj, Nat.add_zero]
  have h2 : (a * m + b) / m = a := by rw [Nat.mul_comm a m, Nat.mul_add_div (by omega), Nat.div_eq_of_lt hb, Nat.add_zero]
  have e : i = a := by rw [← h1, ← h2, h]
  subst e
  omega
theorem flat_set {m : Nat} (C : Mat) {i j : Nat} (hj : j < m) (v : Int) : (flatL m C).set (i * m + j) v = flatL m (upd C i j v) := by
  apply List.ext_getElem?
  intro t
  rw [List.getElem?_set]
  unfold flatL
  by_cases ht : t < m * m
  · have hm : 0 < m := by
      rcases Nat.eq_zero_or_pos m with e | e
      · subst e; omega
      · exact e
    rw [List.getElem?_map, List.getElem?_range ht, List.getElem?_map, List.getElem?_range ht]
    have hd : t / m * m + t % m = t := by rw [Nat.mul_comm]; exact Nat.div_add_mod t m
    show (if i * m + j = t then _ else some (C (t / m) (t % m))) = some (upd C i j v (t / m) (t % m))
    by_cases e : i * m + j = t
    · rw [if_pos e]
      have hs := spot_inj hj (Nat.mod_lt t hm) (e.trans hd.symm)
      have hlt : i * m + j < ((List.range (m * m)).map fun t => C (t / m) (t % m)).length := by simp; omega
      rw [if_pos hlt]
      unfold upd
      rw [if_pos ⟨hs.1.symm, hs.2.symm⟩]
    · rw [if_neg e]
      unfold upd
      rw [if_neg]
      rintro ⟨e1, e2⟩
      exact e (by rw [← e1, ← e2]; exact hd)
  · have hn : ((List.range (m * m)).map fun t => C (t / m) (t % m))[t]? = none := List.getElem?_eq_none (by simp; omega)
    have hn2 : ((List.range (m * m)).map fun t => upd C i j v (t / m) (t % m))[t]? = none := List.getElem?_eq_none (by simp; omega)
    rw [hn, hn2]
    by_cases e : i * m + j = t
    · rw [if_pos e, if_neg (by simp; omega)]
    · rw [if_neg e]

/-- A row and a column that were come to. -/
def seen {m : Nat} (pre : List (Cell m)) (i j : Nat) : Bool := pre.any fun x => x.1.1 == i && x.1.2 == j
theorem seen_snoc {m : Nat} (pre : List (Cell m)) (x : Cell m) (i j : Nat) : seen (pre ++ [x]) i j = (seen pre i j || (x.1.1 == i && x.1.2 == j)) := by simp [seen]
theorem seen_all {m : Nat} (h : 0 < m) {i j : Nat} (hi : i < m) (hj : j < m) : seen (spots h (m * m)) i j = true := by
  unfold seen
  rw [List.any_eq_true]
  refine ⟨⟨(i, j), hi, hj⟩, ?_, by simp⟩
  rw [← spot_at h hi hj]
  unfold spots
  exact List.mem_map.2 ⟨_, List.mem_range.2 (spot_lt hi hj), rfl⟩
theorem seen_nil {m : Nat} (i j : Nat) : seen ([] : List (Cell m)) i j = false := rfl
/-- The bounds that were come to are made f's; the others are as they were. -/
def upTo {m : Nat} (A B : Mat) (pre : List (Cell m)) : Mat := fun i j => if seen pre i j = true then B i j else A i j
theorem upTo_nil {m : Nat} (A B : Mat) : upTo A B ([] : List (Cell m)) = A := by
  funext i j; unfold upTo; rw [seen_nil]; rfl
theorem upTo_all {m : Nat} (h : 0 < m) (A B : Mat) : Same m (upTo A B (spots h (m * m))) B := fun i j hi hj => by unfold upTo; rw [seen_all h hi hj]; rfl
theorem upTo_step {m : Nat} (A B : Mat) (pre : List (Cell m)) (x : Cell m) : Same m (upd (upTo A B pre) x.1.1 x.1.2 (B x.1.1 x.1.2)) (upTo A B (pre ++ [x])) := by
  intro i j _ _
  unfold upd upTo
  rw [seen_snoc]
  by_cases e : i = x.1.1 ∧ j = x.1.2
  · rw [if_pos e, e.1, e.2]; simp
  · rw [if_neg e]
    have h : (x.1.1 == i && x.1.2 == j) = false := by
      cases h : (x.1.1 == i && x.1.2 == j)
      · rfl
      · rw [Bool.and_eq_true, beq_iff_eq, beq_iff_eq] at h; exact absurd ⟨h.1.symm, h.2.symm⟩ e
    rw [h, Bool.or_false]
/-- Capped once, or again: the same. -/
theorem upTo_cap {m : Nat} (A : Mat) (pre : List (Cell m)) (i j : Nat) : min (upTo A (cap A) pre i j) (far i j) = cap A i j := by
  unfold upTo
  split
  · unfold cap; omega
  · rfl
/-- Row and column k do not change while k is taken on the way. -/
theorem via_row {L : Mat} {k : Nat} (h : L k k = 0) (i : Nat) : via L k i k = L i k := by unfold via; rw [h]; omega
theorem via_col {L : Mat} {k : Nat} (h : L k k = 0) (j : Nat) : via L k k j = L k j := by unfold via; rw [h]; omega
theorem upTo_row {m : Nat} {L : Mat} {k : Nat} (h : L k k = 0) (pre : List (Cell m)) (i : Nat) : upTo L (via L k) pre i k = L i k := by
  unfold upTo; rw [via_row h]; split <;> rfl
theorem upTo_col {m : Nat} {L : Mat} {k : Nat} (h : L k k = 0) (pre : List (Cell m)) (j : Nat) : upTo L (via L k) pre k j = L k j := by
  unfold upTo; rw [via_col h]; split <;> rfl
theorem upTo_via {m : Nat} (L : Mat) (k : Nat) (pre : List (Cell m)) (i j : Nat) : min (upTo L (via L k) pre i j) (L i k + L k j) = via L k i j := by
  unfold upTo
  split
  · unfold via; omega
  · rfl
/-- No cell that was come to was out of range. -/
def FitTo {m : Nat} (V : Mat) (pre : List (Cell m)) : Prop := ∀ x, x ∈ pre → -far x.1.1 x.1.2 ≤ V x.1.1 x.1.2
theorem fitTo_nil {m : Nat} (V : Mat) : FitTo V ([] : List (Cell m)) := fun x h => by cases h
theorem fitTo_snoc {m : Nat} {V : Mat} {pre : List (Cell m)} {x : Cell m} (h : FitTo V pre) (hx : -far x.1.1 x.1.2 ≤ V x.1.1 x.1.2) : FitTo V (pre ++ [x]) := by
  intro y hy
  rw [List.mem_append] at hy
  rcases hy with hy | hy
  · exact h y hy
  · have e : y = x := by simpa using hy
    subst e; exact hx
theorem fitTo_all {m : Nat} (h : 0 < m) {V : Mat} (hf : FitTo V (spots h (m * m))) : ∀ i j, i < m → j < m → -far i j ≤ V i j := by
  intro i j hi hj
  refine hf ⟨(i, j), hi, hj⟩ ?_
  rw [← spot_at h hi hj]
  unfold spots
  exact List.mem_map.2 ⟨_, List.mem_range.2 (spot_lt hi hj), rfl⟩
/-- All went well up to k. -/
def AliveTo (m : Nat) (A : Mat) (k : Nat) : Prop := Fits m (cap A) ∧ ∀ x, x < k → Fit m (lev A x) x
theorem aliveTo_all {m : Nat} {A : Mat} (h : AliveTo m A m) : Alive m A := h
theorem aliveTo_succ {m : Nat} {A : Mat} {k : Nat} (h : AliveTo m A k) (hf : Fit m (lev A k) k) : AliveTo m A (k + 1) := by
  refine ⟨h.1, fun x hx => ?_⟩
  rcases Nat.lt_or_ge x k with c | c
  · exact h.2 x c
  · obtain rfl : x = k := by omega
    exact hf
/-- While all goes well up to K the diagonal is 0, and all bounds are in range. -/
theorem lev_goodTo {m : Nat} {A : Mat} {k : Nat} (h : AliveTo m A k) : ∀ K, K ≤ k → K ≤ m → (∀ i, i < m → lev A K i i = 0) ∧ Fits m (lev A K) := by
  intro K
  induction K with
  | zero =>
    intro _ _
    refine ⟨fun i hi => ?_, h.1⟩
    have h1 := h.1 i i hi hi
    have h2 := (cap_le A i i).2
    rw [far_same] at h1 h2
    show cap A i i = 0
    omega
  | succ K ih =>
    intro hK hm
    obtain ⟨d0, fits⟩ := ih (by omega) (by omega)
    have fk := h.2 K (by omega)
    have fits' : Fits m (lev A (K + 1)) := fun i j hi hj => by
      have := fits i j hi hj; have := fk i j hi hj
      show -far i j ≤ min _ _
      omega
    refine ⟨fun i hi => ?_, fits'⟩
    have h1 := fits' i i hi hi
    have h2 := (via_le (lev A K) K i i).1
    rw [d0 i hi] at h2
    rw [far_same] at h1
    show via (lev A K) K i i = 0
    have h3 : -0 ≤ via (lev A K) K i i := h1
    omega
theorem lev_bd {m : Nat} {A : Mat} {k : Nat} (h : AliveTo m A k) (hk : k ≤ m) {i j : Nat} (hi : i < m) (hj : j < m) : -2305843009213693952 ≤ lev A k i j ∧ lev A k i j ≤ 2305843009213693952 := by
  have h1 := (lev_goodTo h k (Nat.le_refl _) hk).2 i j hi hj
  have h2 := Int.le_trans (lev_le_cap A k i j) (cap_le A i j).2
  have h3 := far_nonneg i j
  omega
theorem not_alive_cap {m : Nat} {A : Mat} {i j : Nat} (hi : i < m) (hj : j < m) (h : cap A i j < -far i j) : ¬ Alive m A := fun ha => by
  have := ha.1 i j hi hj; omega
theorem not_alive_sum {m : Nat} {A : Mat} {k i j : Nat} (hk : k < m) (hi : i < m) (hj : j < m) (h : lev A k i k + lev A k k j < -far i j) : ¬ Alive m A := fun ha => by
  have := ha.2 k hk i j hi hj; omega
end Go.Proofs.YtlddelnbjihhgaaGreatDoor
