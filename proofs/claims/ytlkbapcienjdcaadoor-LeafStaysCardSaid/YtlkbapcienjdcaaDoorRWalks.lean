/- The contracts of the document's own answers on numbers: what each returns, and that the world is as it was. -/
import Derived.Test.YtlkbapcienjdcaaDoorWalks
namespace Go.Proofs.YtlkbapcienjdcaaDoor
open Go.RowKit

/-- Near, said by Right. -/
theorem nearZ_right {b : Int} (h : rightB b = true) : nearZ b = b := by
  have h := of_decide_eq_true h
  rcases nearZ_cases b with h' | h' | h' <;> omega
theorem nearZ_low {b : Int} (h : rightB b = false) (h' : b < 0) : nearZ b = -2305843009213693952 := by
  have h := of_decide_eq_false h
  rcases nearZ_cases b with h' | h' | h' <;> omega
theorem nearZ_high {b : Int} (h : rightB b = false) (h' : ¬ b < 0) : nearZ b = 4611686018427387904 := by
  have h := of_decide_eq_false h
  rcases nearZ_cases b with h' | h' | h' <;> omega

end Go.Proofs.YtlkbapcienjdcaaDoor
