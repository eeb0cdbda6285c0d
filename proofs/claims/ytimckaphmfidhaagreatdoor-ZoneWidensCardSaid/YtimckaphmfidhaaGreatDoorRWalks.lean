/- The contracts of the document's own answers on numbers: what each returns, and that the world is as it was. -/
import Derived.Test.YtimckaphmfidhaaGreatDoorWalks
namespace Go.Proofs.YtimckaphmfidhaaGreatDoor
open Go.RowKit

theorem rtop_any (w : World) : Calls Tryz.prog 122 #[] w fun e w' => e = .returned (.int .i64 1152921504606846976) ∧ w = w' := by
  go_enter Tryz.func122, Tryz.ntmps122
  go_wp2
  go_ret
  exact ⟨rfl, rfl⟩
theorem redge_any (w : World) : Calls Tryz.prog 99 #[] w fun e w' => e = .returned (.int .i64 2305843009213693952) ∧ w = w' := by
  go_enter Tryz.func99, Tryz.ntmps99
  go_wp2
  go_ret
  exact ⟨rfl, rfl⟩
theorem rnone_any (w : World) : Calls Tryz.prog 121 #[] w fun e w' => e = .returned (.int .i64 4611686018427387904) ∧ w = w' := by
  go_enter Tryz.func121, Tryz.ntmps121
  go_wp2
  go_ret
  exact ⟨rfl, rfl⟩

set_option maxHeartbeats 400000 in
theorem rin_any (n : Int) (w : World) : Calls Tryz.prog 96 #[.int .i64 n] w fun e w' => e = .returned (.bool (inB n)) ∧ w = w' := by
  by_cases h1 : -1152921504606846976 ≤ n
  · by_cases h2 : n ≤ 1152921504606846976
    · rw [inB_yes h1 h2]
      go_enter Tryz.func96, Tryz.ntmps96
      go_wp2_with (go_at_call 122; refine (rtop_any _).mono ?_; rintro e w' ⟨rfl, rfl⟩)
      go_ret
      exact ⟨rfl, rfl⟩
    · rw [inB_high (by omega)]
      have h3 : decide (n ≤ 1152921504606846976) = false := decide_eq_false h2
      clear h2
      go_enter Tryz.func96, Tryz.ntmps96
      go_wp2_with (go_at_call 122; refine (rtop_any _).mono ?_; rintro e w' ⟨rfl, rfl⟩)
      go_ret
      exact ⟨rfl, rfl⟩
  · rw [inB_low (by omega)]
    have h3 : decide (-1152921504606846976 ≤ n) = false := decide_eq_false h1
    clear h1
    go_enter Tryz.func96, Tryz.ntmps96
    go_wp2_with (go_at_call 122; refine (rtop_any _).mono ?_; rintro e w' ⟨rfl, rfl⟩)
    go_ret
    exact ⟨rfl, rfl⟩

set_option maxHeartbeats 400000 in
theorem rright_any (b : Int) (w : World) : Calls Tryz.prog 120 #[.int .i64 b] w fun e w' => e = .returned (.bool (rightB b)) ∧ w = w' := by
  by_cases h1 : -2305843009213693952 ≤ b ∧ b ≤ 2305843009213693952
  · have e : rightB b = true := decide_eq_true (Or.inr h1)
    obtain ⟨h1, h2⟩ := h1
    rw [e]; clear e
    go_enter Tryz.func120, Tryz.ntmps120
    go_wp2_with (first | (go_at_call 99; refine (redge_any _).mono ?_; rintro e w' ⟨rfl, rfl⟩) | (go_at_call 121; refine (rnone_any _).mono ?_; rintro e w' ⟨rfl, rfl⟩))
    go_ret
    exact ⟨rfl, rfl⟩
  · by_cases h0 : b = 4611686018427387904
    · subst h0
      have e : rightB 4611686018427387904 = true := decide_eq_true (Or.inl rfl)
      rw [e]; clear e h1
      go_enter Tryz.func120, Tryz.ntmps120
      go_wp2_with (first | (go_at_call 99; refine (redge_any _).mono ?_; rintro e w' ⟨rfl, rfl⟩) | (go_at_call 121; refine (rnone_any _).mono ?_; rintro e w' ⟨rfl, rfl⟩))
      go_ret
      exact ⟨rfl, rfl⟩
    · have e : rightB b = false := decide_eq_false (by omega)
      rw [e]; clear e
      have h0' : (b == 4611686018427387904) = false := by simpa using h0
      by_cases h2 : -2305843009213693952 ≤ b
      · have h3 : decide (b ≤ 2305843009213693952) = false := decide_eq_false (by omega)
        clear h0 h1
        go_enter Tryz.func120, Tryz.ntmps120
        go_wp2_with (first | (go_at_call 99; refine (redge_any _).mono ?_; rintro e w' ⟨rfl, rfl⟩) | (go_at_call 121; refine (rnone_any _).mono ?_; rintro e w' ⟨rfl, rfl⟩))
        go_ret
        exact ⟨rfl, rfl⟩
      · have h3 : decide (-2305843009213693952 ≤ b) = false := decide_eq_false h2
        clear h0 h1 h2
        go_enter Tryz.func120, Tryz.ntmps120
        go_wp2_with (first | (go_at_call 99; refine (redge_any _).mono ?_; rintro e w' ⟨rfl, rfl⟩) | (go_at_call 121; refine (rnone_any _).mono ?_; rintro e w' ⟨rfl, rfl⟩))
        go_ret
        exact ⟨rfl, rfl⟩

/-- Near, said by Right. -/
theorem nearZ_right {b : Int} (h : rightB b = true) : nearZ b = b := by
  have h := of_decide_eq_true h
  rcases nearZ_cases b with h' | h' | h' <;> omega
theorem nearZ_low {b : Int} (h : rightB b = false) (h' : b < 0) : nearZ b = -2305843009213693952 := by
  have h := of_decide_eq_false h
  rcases nearZ_cases b with h' | h' | h' <;> omega
theorem nearZ_high {b : Int} (h : rightB b = false) (h' : ¬ b < 0) : nearZ b = 4611686018427387904 := by
  have h := of_decide_eq_false h
  rcases nearZ_cases b with h' | h' | h' <;> omega

set_option maxHeartbeats 400000 in
theorem rnear_any (b : Int) (w : World) : Calls Tryz.prog 87 #[.int .i64 b] w fun e w' => e = .returned (.int .i64 (nearZ b)) ∧ w = w' := by
  cases hr : rightB b
  · by_cases h : b < 0
    · rw [nearZ_low hr h]
      go_enter Tryz.func87, Tryz.ntmps87
      go_wp2_with (first | (go_at_call 120; refine (rright_any _ _).mono ?_; rintro e w' ⟨rfl, rfl⟩) | (go_at_call 99; refine (redge_any _).mono ?_; rintro e w' ⟨rfl, rfl⟩) | (go_at_call 121; refine (rnone_any _).mono ?_; rintro e w' ⟨rfl, rfl⟩))
      go_ret
      exact ⟨rfl, rfl⟩
    · rw [nearZ_high hr h]
      go_enter Tryz.func87, Tryz.ntmps87
      go_wp2_with (first | (go_at_call 120; refine (rright_any _ _).mono ?_; rintro e w' ⟨rfl, rfl⟩) | (go_at_call 99; refine (redge_any _).mono ?_; rintro e w' ⟨rfl, rfl⟩) | (go_at_call 121; refine (rnone_any _).mono ?_; rintro e w' ⟨rfl, rfl⟩))
      go_ret
      exact ⟨rfl, rfl⟩
  · rw [nearZ_right hr]
    go_enter Tryz.func87, Tryz.ntmps87
    go_wp2_with (first | (go_at_call 120; refine (rright_any _ _).mono ?_; rintro e w' ⟨rfl, rfl⟩) | (go_at_call 99; refine (redge_any _).mono ?_; rintro e w' ⟨rfl, rfl⟩) | (go_at_call 121; refine (rnone_any _).mono ?_; rintro e w' ⟨rfl, rfl⟩))
    go_ret
    exact ⟨rfl, rfl⟩

end Go.Proofs.YtimckaphmfidhaaGreatDoor
