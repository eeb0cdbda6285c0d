/- The walk of BoundCalcs: it returns true at any three numbers. -/
import Derived.Test.YtnokpnhggfemiaaDoorAlive
import Derived.Test.YtnokpnhggfemiaaDoorRefCalc
namespace Go.Proofs.YtnokpnhggfemiaaDoor
open Go.RowKit

set_option maxHeartbeats 1000000 in
theorem calcs_walk (op a b : Int) (w : World) (ht : Tabs w) : Calls Tryd.prog 3 #[.int .i64 op, .int .i64 a, .int .i64 b] w (RetTrue w) := by
  obtain ⟨n, k, h1, h2⟩ := calc_both op a b
  have h1 : Calls Tryd.prog 10 #[.int .i64 op, .int .i64 a, .int .i64 b] w fun e w' => e = .returned (.tuple #[.int .i64 n, .int .i64 k]) ∧ w = w' := h1 w
  have h2 : Calls Tryd.prog 11 #[.int .i64 op, .int .i64 a, .int .i64 b] w fun e w' => e = .returned (.tuple #[.int .i64 n, .int .i64 k]) ∧ w = w' := h2 w
  have H1 := Lib.hid h1
  have H2 := Lib.hid h2
  have HA := Lib.hid (alive_any w ht)
  clear h1 h2 ht
  go_enter Tryd.func3, Tryd.ntmps3
  go_wp2_with (first
    | (go_at_call 10; ((with_reducible refine H1.out.mono ?_); rintro e w' ⟨rfl, rfl⟩))
    | (go_at_call 11; ((with_reducible refine H2.out.mono ?_); rintro e w' ⟨rfl, rfl⟩))
    | (go_at_call 12; ((with_reducible refine HA.out.mono ?_); rintro e w' ⟨rfl, hb⟩))
    | (go_at_call 13; ((with_reducible refine (in_any _ _).mono ?_); rintro e w' ⟨rfl, rfl⟩))
    | (go_at_call 14; ((with_reducible refine (rin_any _ _).mono ?_); rintro e w' ⟨rfl, rfl⟩)))
  go_ret
  exact ⟨rfl, by assumption⟩
end Go.Proofs.YtnokpnhggfemiaaDoor
