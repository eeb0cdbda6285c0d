/- The document's Value; cubes in a row. -/
import Derived.Test.YtcolinjgfcjimaaCRefRow
import Derived.Test.YtcolinjgfcjimaaCRefMath
import Derived.Test.YtcolinjgfcjimaaNRefAny
namespace Go.Proofs.Ytcolinjgfcjimaa
open Go.RowKit
attribute [local go_sem ↓] Go.wp_at_zero Go.wp_at_succ

theorem rvalue_any (r : Int) (W : World) : Calls Try.prog 46 #[.int .i64 r] W (RetW (.int .i64 (valueP r)) W) := by
  by_cases h0 : 0 ≤ r
  · rw [show valueP r = 0 by unfold valueP; rw [if_pos (.inl h0)]]
    go_enter Try.func46, Try.ntmps46
    go_wp2_with (go_at_call 57; ((with_reducible refine (lowest_any _).mono ?_); rintro e w1 ⟨rfl, rfl⟩))
    go_ret
    exact ⟨rfl, rfl⟩
  · have d0 : decide (0 ≤ r) = false := decide_eq_false h0
    by_cases h1 : r < -1099511627777
    · rw [show valueP r = 0 by unfold valueP; rw [if_pos (.inr h1)]]
      have d1 : decide (r < -1099511627777) = true := decide_eq_true h1
      go_enter Try.func46, Try.ntmps46
      go_wp2_with (go_at_call 57; ((with_reducible refine (lowest_any _).mono ?_); rintro e w1 ⟨rfl, rfl⟩))
      go_ret
      exact ⟨rfl, rfl⟩
    · rw [show valueP r = -r - 1 by unfold valueP; rw [if_neg (by omega)]; omega]
      have d1 : decide (r < -1099511627777) = false := decide_eq_false h1
      go_enter Try.func46, Try.ntmps46
      go_wp2_with (go_at_call 57; ((with_reducible refine (lowest_any _).mono ?_); rintro e w1 ⟨rfl, rfl⟩))
      go_ret
      exact ⟨rfl, rfl⟩
theorem cubeCells_add (C D : List Cb) : cubeCells (C ++ D) = cubeCells C ++ cubeCells D := by
  unfold cubeCells
  rw [List.flatMap_append]
theorem cubeCells_one (C : List Cb) : ∀ u ∈ cubeCells C, u.oneCell' = true := by
  intro u hu
  unfold cubeCells at hu
  obtain ⟨c, -, h⟩ := List.mem_flatMap.1 hu
  simp at h
  rcases h with rfl | rfl <;> rfl
/-- What the document's Cubes returns. -/
def RetRC (C : List Cb) (w : World) (e : Ending) (w' : World) : Prop := ∃ v, e = .returned v ∧ w'.ownsRow w.heap.size 50 2 v C.length (cubeCells C) ∧ Below w.heap.size w w'
end Go.Proofs.Ytcolinjgfcjimaa
