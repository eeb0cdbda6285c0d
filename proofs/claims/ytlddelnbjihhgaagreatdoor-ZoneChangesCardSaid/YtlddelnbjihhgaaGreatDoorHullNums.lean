/- The least and the greatest of some numbers, and the span that they make. Nothing of the program stands here. -/
import Derived.Test.YtlddelnbjihhgaaGreatDoorSpans
namespace Go.Proofs.YtlddelnbjihhgaaGreatDoor

/-- The least, and the greatest, of f 0 to f k. -/
def mnF (f : Nat → Int) : Nat → Int
  | 0 => f 0
  | k + 1 => min (mnF f k) (f (k + 1))
def mxF (f : Nat → Int) : Nat → Int
  | 0 => f 0
  | k + 1 => max (mxF f k) (f (k + 1))
theorem mnF_le (f : Nat → Int) (k j : Nat) (h : j ≤ k) : mnF f k ≤ f j := by
  induction k with
  | zero => obtain rfl : j = 0 := by omega
            exact Int.le_refl _
  | succ k ih =>
    unfold mnF
    by_cases e : j = k + 1
    · subst e; omega
    · have := ih (by omega); omega
theorem le_mxF (f : Nat → Int) (k j : Nat) (h : j ≤ k) : f j ≤ mxF f k := by
  induction k with
  | zero => obtain rfl : j = 0 := by omega
            exact Int.le_refl _
  | succ k ih =>
    unfold mxF
    by_cases e : j = k + 1
    · subst e; omega
    · have := ih (by omega); omega
theorem mnF_in (f : Nat → Int) (k : Nat) : ∃ j, j ≤ k ∧ mnF f k = f j := by
  induction k with
  | zero => exact ⟨0, Nat.le_refl _, rfl⟩
  | succ k ih =>
    obtain ⟨j, hj, e⟩ := ih
    unfold mnF
    by_cases c : mnF f k ≤ f (k + 1)
    · exact ⟨j, by omega, by omega⟩
    · exact ⟨k + 1, by omega, by omega⟩
theorem mxF_in (f : Nat → Int) (k : Nat) : ∃ j, j ≤ k ∧ mxF f k = f j := by
  induction k with
  | zero => exact ⟨0, Nat.le_refl _, rfl⟩
  | succ k ih =>
    obtain ⟨j, hj, e⟩ := ih
    unfold mxF
    by_cases c : f (k + 1) ≤ mxF f k
    · exact ⟨j, by omega, by omega⟩
    · exact ⟨k + 1, by omega, by omega⟩
theorem mnF_congr {f g : Nat → Int} (k : Nat) (h : ∀ j, j ≤ k → f j = g j) : mnF f k = mnF g k := by
  induction k with
  | zero => exact h 0 (Nat.le_refl _)
  | succ k ih => unfold mnF; rw [ih (fun j hj => h j (by omega)), h (k + 1) (Nat.le_refl _)]
theorem mxF_congr {f g : Nat → Int} (k : Nat) (h : ∀ j, j ≤ k → f j = g j) : mxF f k = mxF g k := by
  induction k with
  | zero => exact h 0 (Nat.le_refl _)
  | succ k ih => unfold mxF; rw [ih (fun j hj => h j (by omega)), h (k + 1) (Nat.le_refl _)]

/-- The least span of f 0 to f (n - 1). -/
def hullL (f : Nat → Int) : Nat → Int
  | 0 => 1
  | n + 1 => ofL (mnF f n) (mxF f n)
def hullH (f : Nat → Int) : Nat → Int
  | 0 => 0
  | n + 1 => ofH (mnF f n) (mxF f n)
/-- It hangs on which numbers there are, not on how they stand, nor on how far off one that is no whole number is. -/
def cut (n : Int) : Int := if 1152921504606846976 < n then 1152921504606846977 else if n < -1152921504606846976 then -1152921504606846977 else n
theorem cut_cases (n : Int) : (1152921504606846976 < n ∧ cut n = 1152921504606846977) ∨ (n < -1152921504606846976 ∧ cut n = -1152921504606846977) ∨ (-1152921504606846976 ≤ n ∧ n ≤ 1152921504606846976 ∧ cut n = n) := by
  unfold cut
  by_cases h : 1152921504606846976 < n
  · rw [if_pos h]; omega
  · rw [if_neg h]
    by_cases h' : n < -1152921504606846976
    · rw [if_pos h']; omega
    · rw [if_neg h']; omega
theorem of_cut (l h l' h' : Int) (e1 : cut l = cut l') (e2 : cut h = cut h') : ofL l h = ofL l' h' ∧ ofH l h = ofH l' h' := by
  rcases cut_cases l with a | a | a <;> rcases cut_cases l' with b | b | b <;> rcases cut_cases h with c | c | c <;> rcases cut_cases h' with d | d | d <;>
    (rcases of_cases l h with p | p <;> rcases of_cases l' h' with q | q <;> omega)
theorem cut_mono {a b : Int} (h : a ≤ b) : cut a ≤ cut b := by
  rcases cut_cases a with x | x | x <;> rcases cut_cases b with y | y | y <;> omega
theorem hull_same {f g : Nat → Int} {n m : Nat} (hn : 0 < n) (hm : 0 < m) (h1 : ∀ i, i < n → ∃ j, j < m ∧ cut (f i) = cut (g j)) (h2 : ∀ j, j < m → ∃ i, i < n ∧ cut (f i) = cut (g j)) :
    hullL f n = hullL g m ∧ hullH f n = hullH g m := by
  obtain ⟨k, rfl⟩ : ∃ k, n = k + 1 := ⟨n - 1, by omega⟩
  obtain ⟨l, rfl⟩ : ∃ l, m = l + 1 := ⟨m - 1, by omega⟩
  unfold hullL hullH
  refine of_cut _ _ _ _ ?_ ?_
  · obtain ⟨i, hi, e⟩ := mnF_in f k
    obtain ⟨j, hj, e'⟩ := mnF_in g l
    obtain ⟨j', hj', c1⟩ := h1 i (by omega)
    obtain ⟨i', hi', c2⟩ := h2 j (by omega)
    have a1 := cut_mono (mnF_le g l j' (by omega))
    have a2 := cut_mono (mnF_le f k i' (by omega))
    rw [e] at a2 ⊢
    rw [e'] at a1 ⊢
    omega
  · obtain ⟨i, hi, e⟩ := mxF_in f k
    obtain ⟨j, hj, e'⟩ := mxF_in g l
    obtain ⟨j', hj', c1⟩ := h1 i (by omega)
    obtain ⟨i', hi', c2⟩ := h2 j (by omega)
    have a1 := cut_mono (le_mxF g l j' (by omega))
    have a2 := cut_mono (le_mxF f k i' (by omega))
    rw [e] at a2 ⊢
    rw [e'] at a1 ⊢
    omega
end Go.Proofs.YtlddelnbjihhgaaGreatDoor
