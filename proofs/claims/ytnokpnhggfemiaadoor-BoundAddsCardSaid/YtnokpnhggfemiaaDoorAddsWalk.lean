/- The walk of BoundAdds: it returns true at any two numbers. -/
import Derived.Test.YtnokpnhggfemiaaDoorAlive
import Derived.Test.YtnokpnhggfemiaaDoorRefWalks
namespace Go.Proofs.YtnokpnhggfemiaaDoor
open Go.RowKit

theorem addZ_comm (a b : Int) : addZ b a = addZ a b := by
  unfold addZ
  rw [Int.add_comm (nearZ b) (nearZ a)]
  by_cases h : nearZ a = 4611686018427387904 ∨ nearZ b = 4611686018427387904
  · rw [if_pos h, if_pos (by omega)]
  · rw [if_neg h, if_neg (by omega)]

set_option maxHeartbeats 1000000 in
theorem adds_walk (a b : Int) (w : World) (ht : Tabs w) : Calls Tryd.prog 4 #[.int .i64 a, .int .i64 b] w (RetTrue w) := by
  have HA := Lib.hid (alive_any w ht)
  have hs : (addZ b a == addZ a b) = true := by simpa using addZ_comm a b
  have hl : (leqB a b == decide (nearZ a ≤ nearZ b)) = true := by unfold leqB; simp
  clear ht
  go_enter Tryd.func4, Tryd.ntmps4
  go_wp2_with (first
    | (go_at_call 12; ((with_reducible refine HA.out.mono ?_); rintro e w' ⟨rfl, hb⟩))
    | (go_at_call 15; ((with_reducible refine (right_any _ _).mono ?_); rintro e w' ⟨rfl, rfl⟩))
    | (go_at_call 16; ((with_reducible refine (rright_any _ _).mono ?_); rintro e w' ⟨rfl, rfl⟩))
    | (go_at_call 17; ((with_reducible refine (near_any _ _).mono ?_); rintro e w' ⟨rfl, rfl⟩))
    | (go_at_call 18; ((with_reducible refine (rnear_any _ _).mono ?_); rintro e w' ⟨rfl, rfl⟩))
    | (go_at_call 19; ((with_reducible refine (add_any _ _ _).mono ?_); rintro e w' ⟨rfl, rfl⟩))
    | (go_at_call 20; ((with_reducible refine (radd_any _ _ _).mono ?_); rintro e w' ⟨rfl, rfl⟩))
    | (go_at_call 21; ((with_reducible refine (leq_any _ _ _).mono ?_); rintro e w' ⟨rfl, rfl⟩)))
  go_ret
  exact ⟨rfl, by assumption⟩
end Go.Proofs.YtnokpnhggfemiaaDoor
