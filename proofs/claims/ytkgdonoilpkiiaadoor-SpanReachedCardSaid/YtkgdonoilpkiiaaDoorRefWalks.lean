/- The contracts of the document's own answers on numbers: what each returns, and that the world is as it was. -/
import Derived.Test.YtkgdonoilpkiiaaDoorWalks
namespace Go.Proofs.YtkgdonoilpkiiaaDoor
open Go.RowKit

theorem top_any (w : World) : Calls Tryd.prog 33 #[] w fun e w' => e = .returned (.int .i64 1152921504606846976) ∧ w = w' := by
  go_enter Tryd.func33, Tryd.ntmps33
  go_wp2
  go_ret
  exact ⟨rfl, rfl⟩
theorem edge_any (w : World) : Calls Tryd.prog 32 #[] w fun e w' => e = .returned (.int .i64 2305843009213693952) ∧ w = w' := by
  go_enter Tryd.func32, Tryd.ntmps32
  go_wp2
  go_ret
  exact ⟨rfl, rfl⟩
set_option maxHeartbeats 400000 in
theorem rin_any (n : Int) (w : World) : Calls Tryd.prog 20 #[.int .i64 n] w fun e w' => e = .returned (.bool (inB n)) ∧ w = w' := by
  by_cases h1 : -1152921504606846976 ≤ n
  · by_cases h2 : n ≤ 1152921504606846976
    · rw [inB_yes h1 h2]
      go_enter Tryd.func20, Tryd.ntmps20
      go_wp2_with (go_at_call 33; refine (top_any _).mono ?_; rintro e w' ⟨rfl, rfl⟩)
      go_ret
      exact ⟨rfl, rfl⟩
    · rw [inB_high (by omega)]
      have h3 : decide (n ≤ 1152921504606846976) = false := decide_eq_false h2
      clear h2
      go_enter Tryd.func20, Tryd.ntmps20
      go_wp2_with (go_at_call 33; refine (top_any _).mono ?_; rintro e w' ⟨rfl, rfl⟩)
      go_ret
      exact ⟨rfl, rfl⟩
  · rw [inB_low (by omega)]
    have h3 : decide (-1152921504606846976 ≤ n) = false := decide_eq_false h1
    clear h1
    go_enter Tryd.func20, Tryd.ntmps20
    go_wp2_with (go_at_call 33; refine (top_any _).mono ?_; rintro e w' ⟨rfl, rfl⟩)
    go_ret
    exact ⟨rfl, rfl⟩

/-- Near, said by Right. -/
theorem nearZ_right {b : Int} (h : rightB b = true) : nearZ b = b := by
  have h := of_decide_eq_true h
  rcases nearZ_cases b with h' | h' | h' <;> omega
theorem nearZ_low {b : Int} (h : rightB b = false) (h' : b < 0) : nearZ b = -2305843009213693952 := by
  have h := of_decide_eq_false h
  rcases nearZ_cases b with h' | h' | h' <;> omega
theorem nearZ_high {b : Int} (h : rightB b = false) (h' : ¬ b < 0) : nearZ b = 4611686018427387904 := by
  have h := of_decide_eq_false h
  rcases nearZ_cases b with h' | h' | h' <;> omega

set_option maxHeartbeats 400000 in
theorem rsize_any (n : Int) (w : World) (h : -9223372036854775808 < n) (h' : n ≤ 9223372036854775807) : Calls Tryd.prog 41 #[.int .i64 n] w fun e w' => e = .returned (.int .i64 (sizeZ n)) ∧ w = w' := by
  by_cases h1 : n < 0
  · rw [show sizeZ n = -n from if_pos h1]
    go_enter Tryd.func41, Tryd.ntmps41
    go_wp2
    go_ret
    exact ⟨ret_int (by omega), rfl⟩
  · rw [show sizeZ n = n from if_neg h1]
    go_enter Tryd.func41, Tryd.ntmps41
    go_wp2
    go_ret
    exact ⟨rfl, rfl⟩
end Go.Proofs.YtkgdonoilpkiiaaDoor
