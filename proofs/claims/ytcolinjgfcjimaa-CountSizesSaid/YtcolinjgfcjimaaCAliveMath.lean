/- Lists that have the same things; the diagram of 'alive'. -/
import Derived.Test.YtcolinjgfcjimaaCVals
import Derived.Test.YtcolinjgfcjimaaCSat
import Derived.Test.YtcolinjgfcjimaaCCubes
import Derived.Test.YtcolinjgfcjimaaCBuild
namespace Go.Proofs.Ytcolinjgfcjimaa
open Go.RowKit

theorem perm_same {α : Type} [DecidableEq α] {A B : List α} (hA : A.Nodup) (hB : B.Nodup) (h : ∀ x, x ∈ A ↔ x ∈ B) : A.Perm B := by
  rw [List.perm_iff_count]
  intro x
  rw [hA.count, hB.count]
  simp only [h x]
theorem sort_le (A : List Int) : (sortP A).Pairwise fun x y => x ≤ y := by
  unfold sortP
  exact (List.pairwise_mergeSort (le := fun x y : Int => decide (x ≤ y)) (fun a b c h1 h2 => by simp at *; omega) (fun a b => by simp; omega) A).imp fun h => by simpa using h
theorem sort_perm (A : List Int) : (sortP A).Perm A := List.mergeSort_perm _ _
theorem sort_is {A B : List Int} (h : A.Perm B) (hB : B.Pairwise fun x y => x ≤ y) : sortP A = B :=
  List.Perm.eq_of_pairwise (le := fun x y : Int => x ≤ y) (fun _ _ _ _ h1 h2 => Int.le_antisymm h1 h2) (sort_le A) hB ((sort_perm A).trans h)
theorem sort_same {A B : List Int} (h : A.Perm B) : sortP A = sortP B := sort_is (h.trans (sort_perm B).symm) (sort_le B)
theorem vals_same {A B : List Int} (h : A.Perm B) : sortP (valsP A) = sortP (valsP B) := sort_same ((h.filter _).map _)
theorem count_same {A B : List Int} (h : A.Perm B) : (A.countP fun r => decide (0 ≤ r)) = B.countP fun r => decide (0 ≤ r) := h.countP_eq _

def AL : List Nd := [(2, -1, -2), (0, -1, 0)]
def aliveF : Nat → Nd := fun i => if i = 0 then (2, -1, -2) else (0, -1, 0)
theorem al_scr : scr 60 [] aliveF 2 = AL := by decide +kernel
theorem al_has : hasP AL.length 1 = true := by decide +kernel
theorem al_one : oneN AL 1 1 = 5 := by decide +kernel
theorem al_sat : satN AL 3 1 1 = 2 := by decide +kernel
theorem al_depth : depthN AL 1 = 2 := by decide +kernel
theorem al_cubes : cubesL AL 1 1 = [(5, 5)] := by decide +kernel
def AR : List Int := [1, -1, 0, -2]
theorem al_reach (r : Int) : r ∈ AR ↔ Reach AL 1 r := by
  constructor
  · intro h
    have a1 : Reach AL 1 (-1) := .low (k := 1) (x := (0, -1, 0)) .self rfl
    have a2 : Reach AL 1 0 := .high (k := 1) (x := (0, -1, 0)) .self rfl
    have a3 : Reach AL 1 (-2) := .high (k := 0) (x := (2, -1, -2)) a2 rfl
    simp only [AR, List.mem_cons, List.not_mem_nil, or_false] at h
    rcases h with rfl | rfl | rfl | rfl
    · exact .self
    · exact a1
    · exact a2
    · exact a3
  · refine reach_row (by decide) ?_ r
    intro k x hk hx
    match k, hx with
    | 0, hx => cases hx; decide
    | 1, hx => cases hx; decide
    | k + 2, hx => simp [AL] at hx
theorem al_perm {R : List Int} (h1 : R.Nodup) (h2 : ∀ r, r ∈ R ↔ Reach AL 1 r) : R.Perm AR := perm_same h1 (by decide) fun r => (h2 r).trans (al_reach r).symm
theorem al_vals {R : List Int} (h1 : R.Nodup) (h2 : ∀ r, r ∈ R ↔ Reach AL 1 r) : sortP (valsP R) = [0, 1] := by
  rw [vals_same (al_perm h1 h2)]
  exact sort_is (by decide +kernel) (by decide)
theorem al_size {R : List Int} (h1 : R.Nodup) (h2 : ∀ r, r ∈ R ↔ Reach AL 1 r) : (R.countP fun r => decide (0 ≤ r)) = 2 := by
  rw [count_same (al_perm h1 h2)]
  decide +kernel
theorem al_below : Below12 AL 1 3 := ⟨by omega, al_has, fun r hr => by
  have := (al_reach r).2 hr
  simp [AR] at this
  rcases this with rfl | rfl | rfl | rfl <;> decide⟩
end Go.Proofs.Ytcolinjgfcjimaa
