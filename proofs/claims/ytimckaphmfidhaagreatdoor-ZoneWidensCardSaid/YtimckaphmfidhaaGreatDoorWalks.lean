/- The contracts of the bound layer's functions on numbers: what each returns, and that the world is as it was. -/
import Derived.Test.YtimckaphmfidhaaGreatDoorProg
import Derived.Test.YtimckaphmfidhaaGreatDoorGNums
import Derived.WalkKit
import Derived.WalkSpells
import Derived.Outline
import Derived.Lib.Hide
namespace Go.Proofs.YtimckaphmfidhaaGreatDoor
open Go.RowKit

theorem ret_int {k : IntKind} {a b : Int} (h : a = b) : Ending.returned (.int k a) = .returned (.int k b) := by rw [h]
theorem ret_bool {a b : Bool} (h : a = b) : Ending.returned (.bool a) = .returned (.bool b) := by rw [h]

set_option maxHeartbeats 400000 in
theorem in_yes (n : Int) (w : World) (h : -1152921504606846976 ≤ n) (h' : n ≤ 1152921504606846976) :
    Calls Tryz.prog 84 #[.int .i64 n] w fun e w' => e = .returned (.bool true) ∧ w = w' := by
  go_enter Tryz.func84, Tryz.ntmps84
  go_wp2
  go_ret
  exact ⟨rfl, rfl⟩

set_option maxHeartbeats 400000 in
theorem in_no (n : Int) (w : World) (h : n < -1152921504606846976 ∨ 1152921504606846976 < n) :
    Calls Tryz.prog 84 #[.int .i64 n] w fun e w' => e = .returned (.bool false) ∧ w = w' := by
  rcases h with h | h
  · have h1 : decide (-1152921504606846976 ≤ n) = false := decide_eq_false (by omega)
    go_enter Tryz.func84, Tryz.ntmps84
    go_wp2
    go_ret
    exact ⟨rfl, rfl⟩
  · have h1 : -1152921504606846976 ≤ n := by omega
    have h2 : decide (n ≤ 1152921504606846976) = false := decide_eq_false (by omega)
    go_enter Tryz.func84, Tryz.ntmps84
    go_wp2
    go_ret
    exact ⟨rfl, rfl⟩

theorem in_any (n : Int) (w : World) : Calls Tryz.prog 84 #[.int .i64 n] w fun e w' => e = .returned (.bool (inB n)) ∧ w = w' := by
  by_cases h : -1152921504606846976 ≤ n ∧ n ≤ 1152921504606846976
  · rw [inB_yes h.1 h.2]; exact in_yes n w h.1 h.2
  · have h' : n < -1152921504606846976 ∨ 1152921504606846976 < n := by omega
    have e : inB n = false := by rcases h' with h' | h' <;> first | exact inB_low h' | exact inB_high h'
    rw [e]; exact in_no n w h'

set_option maxHeartbeats 400000 in
theorem near_any (b : Int) (w : World) : Calls Tryz.prog 111 #[.int .i64 b] w fun e w' => e = .returned (.int .i64 (nearZ b)) ∧ w = w' := by
  rcases nearZ_cases b with ⟨h1, h2⟩ | ⟨h1, h2⟩ | ⟨h1, h3, h2⟩
  · rw [h2]; clear h2
    go_enter Tryz.func111, Tryz.ntmps111
    go_wp2
    go_ret
    exact ⟨rfl, rfl⟩
  · rw [h2]; clear h2
    have h4 : ¬ 2305843009213693952 < b := by omega
    go_enter Tryz.func111, Tryz.ntmps111
    go_wp2
    go_ret
    exact ⟨rfl, rfl⟩
  · rw [h2]; clear h2
    have h4 : ¬ 2305843009213693952 < b := by omega
    have h5 : ¬ b < -2305843009213693952 := by omega
    go_enter Tryz.func111, Tryz.ntmps111
    go_wp2
    go_ret
    exact ⟨rfl, rfl⟩

end Go.Proofs.YtimckaphmfidhaaGreatDoor
