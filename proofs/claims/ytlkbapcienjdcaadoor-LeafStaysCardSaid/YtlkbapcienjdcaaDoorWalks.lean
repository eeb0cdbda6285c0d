/- The contracts of the bound layer's functions on numbers: what each returns, and that the world is as it was. -/
import Derived.Test.YtlkbapcienjdcaaDoorProg
import Derived.Test.YtlkbapcienjdcaaDoorGNums
import Derived.WalkKit
import Derived.WalkSpells
import Derived.Outline
import Derived.Lib.Hide
namespace Go.Proofs.YtlkbapcienjdcaaDoor
open Go.RowKit

theorem ret_int {k : IntKind} {a b : Int} (h : a = b) : Ending.returned (.int k a) = .returned (.int k b) := by rw [h]
theorem ret_bool {a b : Bool} (h : a = b) : Ending.returned (.bool a) = .returned (.bool b) := by rw [h]

set_option maxHeartbeats 400000 in
theorem near_any (b : Int) (w : World) : Calls Tryd.prog 58 #[.int .i64 b] w fun e w' => e = .returned (.int .i64 (nearZ b)) ∧ w = w' := by
  rcases nearZ_cases b with ⟨h1, h2⟩ | ⟨h1, h2⟩ | ⟨h1, h3, h2⟩
  · rw [h2]; clear h2
    go_enter Tryd.func58, Tryd.ntmps58
    go_wp2
    go_ret
    exact ⟨rfl, rfl⟩
  · rw [h2]; clear h2
    have h4 : ¬ 2305843009213693952 < b := by omega
    go_enter Tryd.func58, Tryd.ntmps58
    go_wp2
    go_ret
    exact ⟨rfl, rfl⟩
  · rw [h2]; clear h2
    have h4 : ¬ 2305843009213693952 < b := by omega
    have h5 : ¬ b < -2305843009213693952 := by omega
    go_enter Tryd.func58, Tryd.ntmps58
    go_wp2
    go_ret
    exact ⟨rfl, rfl⟩

end Go.Proofs.YtlkbapcienjdcaaDoor
