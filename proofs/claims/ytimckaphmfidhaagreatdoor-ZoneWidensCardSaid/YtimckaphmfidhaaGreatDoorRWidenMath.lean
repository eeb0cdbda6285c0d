/- ZoneWidens: what the document's loops come to. Nothing of the program stands here. -/
import Derived.Test.YtimckaphmfidhaaGreatDoorWidensMathZ
namespace Go.Proofs.YtimckaphmfidhaaGreatDoor
open Go.RowKit

section
variable {m n v : Nat} {C B E : Mat} {f : Nat → Int} {too : Nat → Bool}
/-- Behind the spans of the first k variables. -/
def dSp (f : Nat → Int) (n : Nat) (C B : Mat) : Nat → Mat
  | 0 => far
  | k + 1 => grd (grd (dSp f n C B k) (k + 1) 0 (wH f n C B (k + 1))) 0 (k + 1) (-wL f n C B (k + 1))
/-- Which have moved, behind the first j columns of row i, and behind the first rows. -/
def tRow (f : Nat → Int) (n : Nat) (C B : Mat) (T : Nat → Bool) (i : Nat) : Nat → Nat → Bool
  | 0 => T
  | j + 1 => fun k => if (!farB f n C B (i + 1) && (!farB f n C B (j + 1) && decide (C (i + 1) (j + 1) < B (i + 1) (j + 1)))) = true ∧ (k = i + 1 ∨ k = j + 1) then true else tRow f n C B T i j k
def tAll (f : Nat → Int) (n : Nat) (C B : Mat) (v : Nat) : Nat → Nat → Bool
  | 0 => fun k => farB f n C B k
  | i + 1 => tRow f n C B (tAll f n C B v i) i v
/-- Behind the bounds of the first j columns of row i, and behind the first rows. -/
def dRow (too : Nat → Bool) (C E : Mat) (i : Nat) : Nat → Mat
  | 0 => E
  | j + 1 => if (!too (i + 1) && !too (j + 1)) = true then grd (dRow too C E i j) (i + 1) (j + 1) (C (i + 1) (j + 1)) else dRow too C E i j
def dAll (too : Nat → Bool) (C E : Mat) (v : Nat) : Nat → Mat
  | 0 => E
  | i + 1 => dRow too C (dAll too C E v i) i v
theorem grd_at (E : Mat) (i j : Nat) (x : Int) (a b : Nat) : grd E i j x a b = if a = i ∧ b = j then min (E i j) x else E a b := rfl
theorem dSp_at (k a b : Nat) : dSp f n C B k a b = if b = 0 ∧ 1 ≤ a ∧ a ≤ k then min (far a 0) (wH f n C B a) else if a = 0 ∧ 1 ≤ b ∧ b ≤ k then min (far 0 b) (-wL f n C B b) else far a b := by
  induction k generalizing a b with
  | zero => rw [if_neg (by omega), if_neg (by omega)]; rfl
  | succ k ih =>
    show grd (grd (dSp f n C B k) (k + 1) 0 _) 0 (k + 1) _ a b = _
    have h1 : dSp f n C B k (k + 1) 0 = far (k + 1) 0 := by
      rw [ih, if_neg (show ¬ ((0 : Nat) = 0 ∧ 1 ≤ k + 1 ∧ k + 1 ≤ k) by omega), if_neg (show ¬ (k + 1 = 0 ∧ 1 ≤ 0 ∧ 0 ≤ k) by omega)]
    have h2 : dSp f n C B k 0 (k + 1) = far 0 (k + 1) := by
      rw [ih, if_neg (show ¬ (k + 1 = 0 ∧ 1 ≤ 0 ∧ 0 ≤ k) by omega), if_neg (show ¬ ((0 : Nat) = 0 ∧ 1 ≤ k + 1 ∧ k + 1 ≤ k) by omega)]
    rw [grd_at]
    by_cases e : a = 0 ∧ b = k + 1
    · obtain ⟨rfl, rfl⟩ := e
      rw [if_pos (show (0 : Nat) = 0 ∧ k + 1 = k + 1 from ⟨rfl, rfl⟩), grd_at, if_neg (show ¬ ((0 : Nat) = k + 1 ∧ k + 1 = 0) by omega), h2, if_neg (show ¬ (k + 1 = 0 ∧ 1 ≤ 0 ∧ 0 ≤ k + 1) by omega), if_pos (show (0 : Nat) = 0 ∧ 1 ≤ k + 1 ∧ k + 1 ≤ k + 1 by omega)]
    · rw [if_neg e, grd_at]
      by_cases e2 : a = k + 1 ∧ b = 0
      · obtain ⟨rfl, rfl⟩ := e2
        rw [if_pos (show k + 1 = k + 1 ∧ (0 : Nat) = 0 from ⟨rfl, rfl⟩), h1, if_pos (show (0 : Nat) = 0 ∧ 1 ≤ k + 1 ∧ k + 1 ≤ k + 1 by omega)]
      · rw [if_neg e2, ih]
        by_cases c : b = 0 ∧ 1 ≤ a ∧ a ≤ k
        · rw [if_pos c, if_pos (show b = 0 ∧ 1 ≤ a ∧ a ≤ k + 1 by omega)]
        · rw [if_neg c, if_neg (show ¬ (b = 0 ∧ 1 ≤ a ∧ a ≤ k + 1) by omega)]
          by_cases d : a = 0 ∧ 1 ≤ b ∧ b ≤ k
          · rw [if_pos d, if_pos (show a = 0 ∧ 1 ≤ b ∧ b ≤ k + 1 by omega)]
          · rw [if_neg d, if_neg (show ¬ (a = 0 ∧ 1 ≤ b ∧ b ≤ k + 1) by omega)]
theorem dRow_at (i j a b : Nat) : dRow too C E i j a b = if a = i + 1 ∧ 1 ≤ b ∧ b ≤ j ∧ too a = false ∧ too b = false then min (E a b) (C a b) else E a b := by
  induction j generalizing a b with
  | zero => rw [if_neg (by omega)]; rfl
  | succ j ih =>
    show (if (!too (i + 1) && !too (j + 1)) = true then grd (dRow too C E i j) (i + 1) (j + 1) (C (i + 1) (j + 1)) else dRow too C E i j) a b = _
    by_cases c : (!too (i + 1) && !too (j + 1)) = true
    · rw [if_pos c, grd_at]
      simp only [Bool.and_eq_true, Bool.not_eq_true'] at c
      by_cases e : a = i + 1 ∧ b = j + 1
      · obtain ⟨rfl, rfl⟩ := e
        rw [if_pos ⟨rfl, rfl⟩, ih, if_neg (by omega), if_pos ⟨rfl, by omega, by omega, c.1, c.2⟩]
      · rw [if_neg e, ih]
        by_cases q : a = i + 1 ∧ 1 ≤ b ∧ b ≤ j ∧ too a = false ∧ too b = false
        · rw [if_pos q, if_pos ⟨q.1, q.2.1, by omega, q.2.2.2⟩]
        · rw [if_neg q, if_neg (fun h => q ⟨h.1, h.2.1, by omega, h.2.2.2⟩)]
    · rw [if_neg c, ih]
      by_cases q : a = i + 1 ∧ 1 ≤ b ∧ b ≤ j ∧ too a = false ∧ too b = false
      · rw [if_pos q, if_pos ⟨q.1, q.2.1, by omega, q.2.2.2⟩]
      · rw [if_neg q, if_neg (fun h => q ⟨h.1, h.2.1, by
          by_cases e : b = j + 1
          · exfalso
            subst e
            refine c ?_
            rw [← h.1, h.2.2.2.1, h.2.2.2.2]; rfl
          · omega, h.2.2.2⟩)]
theorem dAll_at (i a b : Nat) : dAll too C E v i a b = if 1 ≤ a ∧ a ≤ i ∧ 1 ≤ b ∧ b ≤ v ∧ too a = false ∧ too b = false then min (E a b) (C a b) else E a b := by
  induction i generalizing a b with
  | zero => rw [if_neg (by omega)]; rfl
  | succ i ih =>
    show dRow too C (dAll too C E v i) i v a b = _
    rw [dRow_at, ih]
    by_cases q : a = i + 1 ∧ 1 ≤ b ∧ b ≤ v ∧ too a = false ∧ too b = false
    · rw [if_pos q, if_neg (by omega), if_pos ⟨by omega, by omega, q.2⟩]
    · rw [if_neg q]
      by_cases c : 1 ≤ a ∧ a ≤ i ∧ 1 ≤ b ∧ b ≤ v ∧ too a = false ∧ too b = false
      · rw [if_pos c, if_pos ⟨c.1, by omega, c.2.2⟩]
      · rw [if_neg c, if_neg (fun h => by
          by_cases e : a = i + 1
          · exact q ⟨e, h.2.2⟩
          · exact c ⟨h.1, by omega, h.2.2⟩)]
theorem tRow_iff (T : Nat → Bool) (i j k : Nat) : tRow f n C B T i j k = true ↔ T k = true ∨ ∃ b, 1 ≤ b ∧ b ≤ j ∧ (farB f n C B (i + 1) = false ∧ farB f n C B b = false ∧ C (i + 1) b < B (i + 1) b) ∧ (k = i + 1 ∨ k = b) := by
  induction j with
  | zero => exact ⟨.inl, fun h => h.elim id fun ⟨b, h1, h2, _⟩ => by omega⟩
  | succ j ih =>
    show (if _ then true else tRow f n C B T i j k) = true ↔ _
    by_cases c : (!farB f n C B (i + 1) && (!farB f n C B (j + 1) && decide (C (i + 1) (j + 1) < B (i + 1) (j + 1)))) = true ∧ (k = i + 1 ∨ k = j + 1)
    · rw [if_pos c]
      have c1 := c.1
      simp only [Bool.and_eq_true, Bool.not_eq_true', decide_eq_true_eq] at c1
      exact ⟨fun _ => .inr ⟨j + 1, by omega, by omega, c1, c.2⟩, fun _ => rfl⟩
    · rw [if_neg c, ih]
      constructor
      · rintro (h | ⟨b, h1, h2, h3, h4⟩)
        · exact .inl h
        · exact .inr ⟨b, h1, by omega, h3, h4⟩
      · rintro (h | ⟨b, h1, h2, h3, h4⟩)
        · exact .inl h
        · by_cases e : b = j + 1
          · subst e
            exact absurd ⟨by simp only [Bool.and_eq_true, Bool.not_eq_true', decide_eq_true_eq]; exact h3, h4⟩ c
          · exact .inr ⟨b, h1, by omega, h3, h4⟩
theorem tAll_iff (i k : Nat) : tAll f n C B v i k = true ↔ farB f n C B k = true ∨ ∃ a b, 1 ≤ a ∧ a ≤ i ∧ 1 ≤ b ∧ b ≤ v ∧ (farB f n C B a = false ∧ farB f n C B b = false ∧ C a b < B a b) ∧ (k = a ∨ k = b) := by
  induction i with
  | zero => exact ⟨.inl, fun h => h.elim id fun ⟨a, b, h1, h2, _⟩ => by omega⟩
  | succ i ih =>
    show tRow f n C B (tAll f n C B v i) i v k = true ↔ _
    rw [tRow_iff, ih]
    constructor
    · rintro ((h | ⟨a, b, h1, h2, h3⟩) | ⟨b, h1, h2, h3, h4⟩)
      · exact .inl h
      · exact .inr ⟨a, b, h1, by omega, h3⟩
      · exact .inr ⟨i + 1, b, by omega, by omega, h1, h2, h3, h4⟩
    · rintro (h | ⟨a, b, h1, h2, h3, h4, h5, h6⟩)
      · exact .inl (.inl h)
      · by_cases e : a = i + 1
        · subst e
          exact .inr ⟨b, h3, h4, h5, h6⟩
        · exact .inl (.inr ⟨a, b, h1, by omega, h3, h4, h5, h6⟩)
theorem tAll_all (hC : Closed (v + 1) C) (hB : Closed (v + 1) B) (k : Nat) : tAll f n C B v v k = true ↔ Mv (v + 1) f n C B k := by
  rw [tAll_iff]
  constructor
  · rintro (h | ⟨a, b, h1, h2, h3, h4, h5, h6⟩)
    · exact .inl h
    · exact .inr ⟨a, b, by omega, by omega, h5.1, h5.2.1, h5.2.2, h6⟩
  · rintro (h | ⟨a, b, h1, h2, h3, h4, h5, h6⟩)
    · exact .inl h
    · have := mv_pos hC hB (by omega) h1 h2 h3 h4 h5
      exact .inr ⟨a, b, by omega, by omega, by omega, by omega, ⟨h3, h4, h5⟩, h6⟩
/-- All of it. -/
theorem d_all (hC : Closed (v + 1) C) : Same (v + 1) (dAll too C (dSp f n C B v) v v) (drM too f n C B) := by
  intro a b ha hb
  rw [dAll_at, dSp_at]
  unfold drM
  have fa := far_same a
  by_cases e : a = b
  · subst e
    rw [if_pos rfl]
    rw [if_neg (show ¬(a = 0 ∧ 1 ≤ a ∧ a ≤ v) by omega), if_neg (show ¬(a = 0 ∧ 1 ≤ a ∧ a ≤ v) by omega)]
    have := hC.diag a ha
    split <;> omega
  · rw [if_neg e]
    by_cases e1 : b = 0
    · subst e1
      rw [if_neg (by omega), if_pos rfl, if_pos (by omega)]
    · rw [if_neg e1]
      by_cases e2 : a = 0
      · subst e2
        rw [if_neg (by omega), if_pos rfl, if_neg (by omega), if_pos (by omega)]
      · rw [if_neg e2, if_neg (show ¬(b = 0 ∧ 1 ≤ a ∧ a ≤ v) by omega), if_neg (show ¬(a = 0 ∧ 1 ≤ b ∧ b ≤ v) by omega)]
        cases q1 : too a
        · cases q2 : too b
          · rw [if_pos ⟨by omega, by omega, by omega, by omega, rfl, rfl⟩, if_neg (by decide)]
          · rw [if_neg (fun h => by have := h.2.2.2.2.2; cases this), if_pos (by decide)]
        · rw [if_neg (fun h => by have := h.2.2.2.2.1; cases this), if_pos (by simp)]
end
end Go.Proofs.YtimckaphmfidhaaGreatDoor
