/- The contracts of the document's own answers on numbers: what each returns, and that the world is as it was. -/
import Derived.Test.YtnokpnhggfemiaaDoorWalks
namespace Go.Proofs.YtnokpnhggfemiaaDoor
open Go.RowKit

theorem top_any (w : World) : Calls Tryd.prog 30 #[] w fun e w' => e = .returned (.int .i64 1152921504606846976) ∧ w = w' := by
  go_enter Tryd.func30, Tryd.ntmps30
  go_wp2
  go_ret
  exact ⟨rfl, rfl⟩
theorem edge_any (w : World) : Calls Tryd.prog 31 #[] w fun e w' => e = .returned (.int .i64 2305843009213693952) ∧ w = w' := by
  go_enter Tryd.func31, Tryd.ntmps31
  go_wp2
  go_ret
  exact ⟨rfl, rfl⟩
theorem none_any (w : World) : Calls Tryd.prog 32 #[] w fun e w' => e = .returned (.int .i64 4611686018427387904) ∧ w = w' := by
  go_enter Tryd.func32, Tryd.ntmps32
  go_wp2
  go_ret
  exact ⟨rfl, rfl⟩

set_option maxHeartbeats 400000 in
theorem rin_any (n : Int) (w : World) : Calls Tryd.prog 14 #[.int .i64 n] w fun e w' => e = .returned (.bool (inB n)) ∧ w = w' := by
  by_cases h1 : -1152921504606846976 ≤ n
  · by_cases h2 : n ≤ 1152921504606846976
    · rw [inB_yes h1 h2]
      go_enter Tryd.func14, Tryd.ntmps14
      go_wp2_with (go_at_call 30; refine (top_any _).mono ?_; rintro e w' ⟨rfl, rfl⟩)
      go_ret
      exact ⟨rfl, rfl⟩
    · rw [inB_high (by omega)]
      have h3 : decide (n ≤ 1152921504606846976) = false := decide_eq_false h2
      clear h2
      go_enter Tryd.func14, Tryd.ntmps14
      go_wp2_with (go_at_call 30; refine (top_any _).mono ?_; rintro e w' ⟨rfl, rfl⟩)
      go_ret
      exact ⟨rfl, rfl⟩
  · rw [inB_low (by omega)]
    have h3 : decide (-1152921504606846976 ≤ n) = false := decide_eq_false h1
    clear h1
    go_enter Tryd.func14, Tryd.ntmps14
    go_wp2_with (go_at_call 30; refine (top_any _).mono ?_; rintro e w' ⟨rfl, rfl⟩)
    go_ret
    exact ⟨rfl, rfl⟩

set_option maxHeartbeats 400000 in
theorem rright_any (b : Int) (w : World) : Calls Tryd.prog 16 #[.int .i64 b] w fun e w' => e = .returned (.bool (rightB b)) ∧ w = w' := by
  by_cases h1 : -2305843009213693952 ≤ b ∧ b ≤ 2305843009213693952
  · have e : rightB b = true := decide_eq_true (Or.inr h1)
    obtain ⟨h1, h2⟩ := h1
    rw [e]; clear e
    go_enter Tryd.func16, Tryd.ntmps16
    go_wp2_with (first | (go_at_call 31; refine (edge_any _).mono ?_; rintro e w' ⟨rfl, rfl⟩) | (go_at_call 32; refine (none_any _).mono ?_; rintro e w' ⟨rfl, rfl⟩))
    go_ret
    exact ⟨rfl, rfl⟩
  · by_cases h0 : b = 4611686018427387904
    · subst h0
      have e : rightB 4611686018427387904 = true := decide_eq_true (Or.inl rfl)
      rw [e]; clear e h1
      go_enter Tryd.func16, Tryd.ntmps16
      go_wp2_with (first | (go_at_call 31; refine (edge_any _).mono ?_; rintro e w' ⟨rfl, rfl⟩) | (go_at_call 32; refine (none_any _).mono ?_; rintro e w' ⟨rfl, rfl⟩))
      go_ret
      exact ⟨rfl, rfl⟩
    · have e : rightB b = false := decide_eq_false (by omega)
      rw [e]; clear e
      have h0' : (b == 4611686018427387904) = false := by simpa using h0
      by_cases h2 : -2305843009213693952 ≤ b
      · have h3 : decide (b ≤ 2305843009213693952) = false := decide_eq_false (by omega)
        clear h0 h1
        go_enter Tryd.func16, Tryd.ntmps16
        go_wp2_with (first | (go_at_call 31; refine (edge_any _).mono ?_; rintro e w' ⟨rfl, rfl⟩) | (go_at_call 32; refine (none_any _).mono ?_; rintro e w' ⟨rfl, rfl⟩))
        go_ret
        exact ⟨rfl, rfl⟩
      · have h3 : decide (-2305843009213693952 ≤ b) = false := decide_eq_false h2
        clear h0 h1 h2
        go_enter Tryd.func16, Tryd.ntmps16
        go_wp2_with (first | (go_at_call 31; refine (edge_any _).mono ?_; rintro e w' ⟨rfl, rfl⟩) | (go_at_call 32; refine (none_any _).mono ?_; rintro e w' ⟨rfl, rfl⟩))
        go_ret
        exact ⟨rfl, rfl⟩

/-- Near, said by Right. -/
theorem nearZ_right {b : Int} (h : rightB b = true) : nearZ b = b := by
  have h := of_decide_eq_true h
  rcases nearZ_cases b with h' | h' | h' <;> omega
theorem nearZ_low {b : Int} (h : rightB b = false) (h' : b < 0) : nearZ b = -2305843009213693952 := by
  have h := of_decide_eq_false h
  rcases nearZ_cases b with h' | h' | h' <;> omega
theorem nearZ_high {b : Int} (h : rightB b = false) (h' : ¬ b < 0) : nearZ b = 4611686018427387904 := by
  have h := of_decide_eq_false h
  rcases nearZ_cases b with h' | h' | h' <;> omega

set_option maxHeartbeats 400000 in
theorem rnear_any (b : Int) (w : World) : Calls Tryd.prog 18 #[.int .i64 b] w fun e w' => e = .returned (.int .i64 (nearZ b)) ∧ w = w' := by
  cases hr : rightB b
  · by_cases h : b < 0
    · rw [nearZ_low hr h]
      go_enter Tryd.func18, Tryd.ntmps18
      go_wp2_with (first | (go_at_call 16; refine (rright_any _ _).mono ?_; rintro e w' ⟨rfl, rfl⟩) | (go_at_call 31; refine (edge_any _).mono ?_; rintro e w' ⟨rfl, rfl⟩) | (go_at_call 32; refine (none_any _).mono ?_; rintro e w' ⟨rfl, rfl⟩))
      go_ret
      exact ⟨rfl, rfl⟩
    · rw [nearZ_high hr h]
      go_enter Tryd.func18, Tryd.ntmps18
      go_wp2_with (first | (go_at_call 16; refine (rright_any _ _).mono ?_; rintro e w' ⟨rfl, rfl⟩) | (go_at_call 31; refine (edge_any _).mono ?_; rintro e w' ⟨rfl, rfl⟩) | (go_at_call 32; refine (none_any _).mono ?_; rintro e w' ⟨rfl, rfl⟩))
      go_ret
      exact ⟨rfl, rfl⟩
  · rw [nearZ_right hr]
    go_enter Tryd.func18, Tryd.ntmps18
    go_wp2_with (first | (go_at_call 16; refine (rright_any _ _).mono ?_; rintro e w' ⟨rfl, rfl⟩) | (go_at_call 31; refine (edge_any _).mono ?_; rintro e w' ⟨rfl, rfl⟩) | (go_at_call 32; refine (none_any _).mono ?_; rintro e w' ⟨rfl, rfl⟩))
    go_ret
    exact ⟨rfl, rfl⟩

set_option maxHeartbeats 400000 in
theorem radd_any (a b : Int) (w : World) : Calls Tryd.prog 20 #[.int .i64 a, .int .i64 b] w fun e w' => e = .returned (.int .i64 (addZ a b)) ∧ w = w' := by
  by_cases ha : nearZ a = 4611686018427387904
  · have e : addZ a b = 4611686018427387904 := if_pos (Or.inl ha)
    rw [e]; clear e
    have ha' : (nearZ a == 4611686018427387904) = true := by simpa using ha
    clear ha
    go_enter Tryd.func20, Tryd.ntmps20
    go_wp2_with (first | (go_at_call 18; refine (rnear_any _ _).mono ?_; rintro e w' ⟨rfl, rfl⟩) | (go_at_call 32; refine (none_any _).mono ?_; rintro e w' ⟨rfl, rfl⟩))
    go_ret
    exact ⟨rfl, rfl⟩
  have ha' : (nearZ a == 4611686018427387904) = false := by simpa using ha
  by_cases hb : nearZ b = 4611686018427387904
  · have e : addZ a b = 4611686018427387904 := if_pos (Or.inr hb)
    rw [e]; clear e
    have hb' : (nearZ b == 4611686018427387904) = true := by simpa using hb
    clear ha hb
    go_enter Tryd.func20, Tryd.ntmps20
    go_wp2_with (first | (go_at_call 18; refine (rnear_any _ _).mono ?_; rintro e w' ⟨rfl, rfl⟩) | (go_at_call 32; refine (none_any _).mono ?_; rintro e w' ⟨rfl, rfl⟩))
    go_ret
    exact ⟨rfl, rfl⟩
  · have e : addZ a b = nearZ (nearZ a + nearZ b) := if_neg (by omega)
    rw [e]; clear e
    have hb' : (nearZ b == 4611686018427387904) = false := by simpa using hb
    obtain ⟨a1, a2⟩ := nearZ_fin ha
    obtain ⟨b1, b2⟩ := nearZ_fin hb
    clear ha hb
    go_enter Tryd.func20, Tryd.ntmps20
    go_wp2_with (first | (go_at_call 18; refine (rnear_any _ _).mono ?_; rintro e w' ⟨rfl, rfl⟩) | (go_at_call 32; refine (none_any _).mono ?_; rintro e w' ⟨rfl, rfl⟩))
    go_ret
    exact ⟨rfl, rfl⟩

set_option maxHeartbeats 400000 in
theorem rsize_any (n : Int) (w : World) (h : -9223372036854775808 < n) (h' : n ≤ 9223372036854775807) : Calls Tryd.prog 29 #[.int .i64 n] w fun e w' => e = .returned (.int .i64 (sizeZ n)) ∧ w = w' := by
  by_cases h1 : n < 0
  · rw [show sizeZ n = -n from if_pos h1]
    go_enter Tryd.func29, Tryd.ntmps29
    go_wp2
    go_ret
    exact ⟨ret_int (by omega), rfl⟩
  · rw [show sizeZ n = n from if_neg h1]
    go_enter Tryd.func29, Tryd.ntmps29
    go_wp2
    go_ret
    exact ⟨rfl, rfl⟩
end Go.Proofs.YtnokpnhggfemiaaDoor
