/- The contract of Join. -/
import Derived.Test.YtkgdonoilpkiiaaDoorHull
namespace Go.Proofs.YtkgdonoilpkiiaaDoor
open Go.RowKit
attribute [local go_sem ↓] Go.wp_at_zero Go.wp_at_succ eq24 eq23 neq24 eqg24 eqg23

theorem Boxes.drew {w wx : World} {a b c d x y : Int} (h : Boxes w wx a b c d x y) : Boxes w wx.drew a b c d x y := ⟨h.1, h.2.1, h.2.2.1, h.2.2.2.drew⟩
theorem Boxes.out {w wx : World} {a b c d x y : Int} (h : Boxes w wx a b c d x y) (x' y' : Int) : Below w.heap.size w ((wx.setCell ⟨w.heap.size + 1 + 1, 0, none⟩ (.int .i64 x')).setCell ⟨w.heap.size + 1 + 1, 1, none⟩ (.int .i64 y')) :=
  (h.2.2.2.setCell (by simp; omega) _).setCell (by simp; omega) _

theorem hull_join {a b c d : Int} (h1 : noneS a b = false) (h2 : noneS c d = false) : hullL (four (tkL a b) (tkH a b) (tkL c d) (tkH c d)) 4 = joinL a b c d ∧ hullH (four (tkL a b) (tkH a b) (tkL c d) (tkH c d)) 4 = joinH a b c d := by
  have e1 := noneS_no h1
  have e2 := noneS_no h2
  unfold hullL hullH joinL joinH
  simp only [h1, h2, Bool.false_eq_true, if_false, mnF, mxF, four]
  rcases of_cases (min (min (min (tkL a b) (tkH a b)) (tkL c d)) (tkH c d)) (max (max (max (tkL a b) (tkH a b)) (tkL c d)) (tkH c d)) with h | h <;> omega

end Go.Proofs.YtkgdonoilpkiiaaDoor
