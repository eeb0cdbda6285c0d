/- The contract of the document's Calc, at any arguments. -/
import Derived.Test.YtkgdonoilpkiiaaDoorRefTimes
import Derived.Test.YtkgdonoilpkiiaaDoorCalc
namespace Go.Proofs.YtkgdonoilpkiiaaDoor
open Go.RowKit

theorem calcRet_of {n m k : Int} (h : n = m) : Ending.returned (.tuple #[.int .i64 n, .int .i64 k]) = calcRet m k := by rw [h]; rfl

set_option maxHeartbeats 1000000 in
theorem rcalc_op (op a b : Int) (w : World) (h : op < 0 ∨ (¬ op < 0 ∧ 3 < op)) :
    Calls Tryd.prog 31 #[.int .i64 op, .int .i64 a, .int .i64 b] w fun e w' => e = calcRet 0 1 ∧ w = w' := by
  rcases h with h | ⟨h, h'⟩
  all_goals
    go_enter Tryd.func31, Tryd.ntmps31
    go_wp2_with (go_at_call 20; refine (rin_any _ _).mono ?_; rintro e w' ⟨rfl, rfl⟩)
    go_ret2
    exact ⟨rfl, rfl⟩

set_option maxHeartbeats 1000000 in
theorem rcalc_arg (op a b : Int) (w : World) (h0 : 0 ≤ op) (h3 : op ≤ 3) (h : inB a = false ∨ (inB a = true ∧ inB b = false)) :
    Calls Tryd.prog 31 #[.int .i64 op, .int .i64 a, .int .i64 b] w fun e w' => e = calcRet 0 1 ∧ w = w' := by
  have o0 : decide (op < 0) = false := decide_eq_false (by omega)
  have o3 : decide (3 < op) = false := decide_eq_false (by omega)
  rcases h with h | ⟨h, h'⟩
  all_goals
    go_enter Tryd.func31, Tryd.ntmps31
    go_wp2_with (go_at_call 20; refine (rin_any _ _).mono ?_; rintro e w' ⟨rfl, rfl⟩)
    go_ret2
    exact ⟨rfl, rfl⟩

set_option maxHeartbeats 1000000 in
theorem rcalc_plus (a b : Int) (w : World) (ha : inB a = true) (hb : inB b = true) :
    Calls Tryd.prog 31 #[.int .i64 0, .int .i64 a, .int .i64 b] w fun e w' => e = calcRet (resN (a + b)) (resE (a + b)) ∧ w = w' := by
  obtain ⟨a1, a2⟩ := of_inB ha
  obtain ⟨b1, b2⟩ := of_inB hb
  cases hr : inB (a + b)
  · rw [resN_no hr, resE_no hr]
    go_enter Tryd.func31, Tryd.ntmps31
    go_wp2_with (go_at_call 20; refine (rin_any _ _).mono ?_; rintro e w' ⟨rfl, rfl⟩)
    go_ret2
    exact ⟨rfl, rfl⟩
  · rw [resN_yes hr, resE_yes hr]
    go_enter Tryd.func31, Tryd.ntmps31
    go_wp2_with (go_at_call 20; refine (rin_any _ _).mono ?_; rintro e w' ⟨rfl, rfl⟩)
    go_ret2
    exact ⟨rfl, rfl⟩

set_option maxHeartbeats 1000000 in
theorem rcalc_minus (a b : Int) (w : World) (ha : inB a = true) (hb : inB b = true) :
    Calls Tryd.prog 31 #[.int .i64 1, .int .i64 a, .int .i64 b] w fun e w' => e = calcRet (resN (a - b)) (resE (a - b)) ∧ w = w' := by
  obtain ⟨a1, a2⟩ := of_inB ha
  obtain ⟨b1, b2⟩ := of_inB hb
  cases hr : inB (a - b)
  · rw [resN_no hr, resE_no hr]
    go_enter Tryd.func31, Tryd.ntmps31
    go_wp2_with (go_at_call 20; refine (rin_any _ _).mono ?_; rintro e w' ⟨rfl, rfl⟩)
    go_ret2
    exact ⟨rfl, rfl⟩
  · rw [resN_yes hr, resE_yes hr]
    go_enter Tryd.func31, Tryd.ntmps31
    go_wp2_with (go_at_call 20; refine (rin_any _ _).mono ?_; rintro e w' ⟨rfl, rfl⟩)
    go_ret2
    exact ⟨rfl, rfl⟩

set_option maxHeartbeats 1000000 in
theorem rcalc_zero (a : Int) (w : World) (ha : inB a = true) :
    Calls Tryd.prog 31 #[.int .i64 3, .int .i64 a, .int .i64 0] w fun e w' => e = calcRet 0 11 ∧ w = w' := by
  have hb : inB 0 = true := by decide
  go_enter Tryd.func31, Tryd.ntmps31
  go_wp2_with (go_at_call 20; refine (rin_any _ _).mono ?_; rintro e w' ⟨rfl, rfl⟩)
  go_ret2
  exact ⟨rfl, rfl⟩

/-- The product's contract, where it is a whole number, and where it is none; the parts are sizes. -/
theorem times_yes (a b : Int) (w : World) (ha : inB a = true) (hb : inB b = true) (h : inB (a * b) = true) :
    Calls Tryd.prog 40 #[.int .i64 (sizeZ a), .int .i64 (sizeZ b)] w fun e w' => e = .returned (.tuple #[.int .i64 (sizeZ (a * b)), .bool true]) ∧ w = w' := by
  rw [inB_size] at ha hb h
  have ha := of_decide_eq_true ha
  have hb := of_decide_eq_true hb
  have h := of_decide_eq_true h
  rw [sizeZ_mul] at h ⊢
  refine (times_any _ _ w (sizeZ_nonneg a) ha (sizeZ_nonneg b) hb).mono fun e w' hh => ?_
  rcases hh with ⟨_, he, hw⟩ | ⟨hn, _, _⟩
  · exact ⟨he, hw⟩
  · omega
theorem times_no (a b : Int) (w : World) (ha : inB a = true) (hb : inB b = true) (h : inB (a * b) = false) :
    Calls Tryd.prog 40 #[.int .i64 (sizeZ a), .int .i64 (sizeZ b)] w fun e w' => e = .returned (.tuple #[.int .i64 0, .bool false]) ∧ w = w' := by
  rw [inB_size] at ha hb h
  have ha := of_decide_eq_true ha
  have hb := of_decide_eq_true hb
  have h := of_decide_eq_false h
  rw [sizeZ_mul] at h
  refine (times_any _ _ w (sizeZ_nonneg a) ha (sizeZ_nonneg b) hb).mono fun e w' hh => ?_
  rcases hh with ⟨hn, _, _⟩ | ⟨_, he, hw⟩
  · omega
  · exact ⟨he, hw⟩

/-- How the signs stand to each other. -/
def turned (a b : Int) : Bool := decide (a < 0) != decide (b < 0)

theorem mul_turned {a b : Int} (h : turned a b = true) : 0 - sizeZ (a * b) = a * b ∨ a * b = 0 := by
  unfold turned at h
  have h : ¬ (a < 0 ↔ b < 0) := by simpa using h
  have k : a * b ≤ 0 := by
    by_cases h1 : a < 0
    · exact Int.mul_nonpos_of_nonpos_of_nonneg (by omega) (by omega)
    · exact Int.mul_nonpos_of_nonneg_of_nonpos (by omega) (by omega)
  unfold sizeZ
  split <;> omega
theorem mul_straight {a b : Int} (h : turned a b = false) : sizeZ (a * b) = a * b := by
  unfold turned at h
  have h : a < 0 ↔ b < 0 := by simpa using h
  have k : 0 ≤ a * b := by
    by_cases h1 : a < 0
    · exact Int.mul_nonneg_of_nonpos_of_nonpos (by omega) (by omega)
    · exact Int.mul_nonneg (by omega) (by omega)
  unfold sizeZ
  split <;> omega
theorem mul_turned' {a b : Int} (h : turned a b = true) : -sizeZ (a * b) = a * b := by
  rcases mul_turned h with h | h
  · omega
  · rw [h]; decide
theorem div_straight {a b : Int} (h : turned a b = false) : sizeZ a / sizeZ b = a.tdiv b := by
  unfold turned at h
  have h : a < 0 ↔ b < 0 := by simpa using h
  unfold sizeZ
  by_cases h1 : a < 0
  · rw [if_pos h1, if_pos (h.1 h1), ← Int.tdiv_eq_ediv_of_nonneg (by omega), Int.neg_tdiv, Int.tdiv_neg, Int.neg_neg]
  · rw [if_neg h1, if_neg (fun k => h1 (h.2 k)), ← Int.tdiv_eq_ediv_of_nonneg (by omega)]
theorem div_turned {a b : Int} (h : turned a b = true) : -(sizeZ a / sizeZ b) = a.tdiv b := by
  unfold turned at h
  have h : ¬ (a < 0 ↔ b < 0) := by simpa using h
  unfold sizeZ
  by_cases h1 : a < 0
  · rw [if_pos h1, if_neg (by omega), ← Int.tdiv_eq_ediv_of_nonneg (by omega), Int.neg_tdiv]; omega
  · rw [if_neg h1, if_pos (by omega), ← Int.tdiv_eq_ediv_of_nonneg (by omega), Int.tdiv_neg]; omega

theorem turned_no {a b : Int} (h : turned a b = false) : (decide (a < 0) == decide (b < 0)) = true := by
  unfold turned at h; simpa using h
theorem turned_yes {a b : Int} (h : turned a b = true) : (decide (a < 0) == decide (b < 0)) = false := by
  unfold turned at h; simpa using h

set_option maxHeartbeats 1000000 in
theorem rcalc_times (a b : Int) (w : World) (ha : inB a = true) (hb : inB b = true) :
    Calls Tryd.prog 31 #[.int .i64 2, .int .i64 a, .int .i64 b] w fun e w' => e = calcRet (resN (a * b)) (resE (a * b)) ∧ w = w' := by
  obtain ⟨a1, a2⟩ := of_inB ha
  obtain ⟨b1, b2⟩ := of_inB hb
  cases hr : inB (a * b)
  · rw [resN_no hr, resE_no hr]
    have HT := Lib.hid (times_no a b w ha hb hr)
    clear hr
    cases hs : turned a b
    all_goals
      first | replace hs := turned_no hs | replace hs := turned_yes hs
      go_enter Tryd.func31, Tryd.ntmps31
      go_wp2_with (first | (go_at_call 20; refine (rin_any _ _).mono ?_; rintro e w' ⟨rfl, rfl⟩) | (go_at_call 41; refine (rsize_any _ _ (by omega) (by omega)).mono ?_; rintro e w' ⟨rfl, rfl⟩) | (go_at_call 40; refine HT.out.mono ?_; rintro e w' ⟨rfl, rfl⟩))
      go_ret2
      exact ⟨rfl, rfl⟩
  · rw [resN_yes hr, resE_yes hr]
    have HT := Lib.hid (times_yes a b w ha hb hr)
    have hz := inB_size (a * b)
    rw [hr] at hz
    have z1 := of_decide_eq_true hz.symm
    have z0 := sizeZ_nonneg (a * b)
    clear hz
    cases hs : turned a b
    · have HM := Lib.hid (mul_straight hs)
      have hr' : inB (sizeZ (a * b)) = true := by rw [mul_straight hs]; exact hr
      first | replace hs := turned_no hs | replace hs := turned_yes hs
      clear hr
      go_enter Tryd.func31, Tryd.ntmps31
      go_wp2_with (first | (go_at_call 20; refine (rin_any _ _).mono ?_; rintro e w' ⟨rfl, rfl⟩) | (go_at_call 41; refine (rsize_any _ _ (by omega) (by omega)).mono ?_; rintro e w' ⟨rfl, rfl⟩) | (go_at_call 40; refine HT.out.mono ?_; rintro e w' ⟨rfl, rfl⟩))
      go_ret2
      exact ⟨calcRet_of HM.out, rfl⟩
    · have HM := Lib.hid (mul_turned' hs)
      have hr' : inB (-sizeZ (a * b)) = true := by rw [mul_turned' hs]; exact hr
      first | replace hs := turned_no hs | replace hs := turned_yes hs
      clear hr
      go_enter Tryd.func31, Tryd.ntmps31
      go_wp2_with (first | (go_at_call 20; refine (rin_any _ _).mono ?_; rintro e w' ⟨rfl, rfl⟩) | (go_at_call 41; refine (rsize_any _ _ (by omega) (by omega)).mono ?_; rintro e w' ⟨rfl, rfl⟩) | (go_at_call 40; refine HT.out.mono ?_; rintro e w' ⟨rfl, rfl⟩))
      go_ret2
      exact ⟨calcRet_of HM.out, rfl⟩

set_option maxHeartbeats 1000000 in
theorem rcalc_div (a b : Int) (w : World) (ha : inB a = true) (hb : inB b = true) (h0 : ¬ b = 0) :
    Calls Tryd.prog 31 #[.int .i64 3, .int .i64 a, .int .i64 b] w fun e w' => e = calcRet (resN (a.tdiv b)) (resE (a.tdiv b)) ∧ w = w' := by
  obtain ⟨a1, a2⟩ := of_inB ha
  obtain ⟨b1, b2⟩ := of_inB hb
  have hr := inB_tdiv (b := b) ha
  rw [resN_yes hr, resE_yes hr]
  obtain ⟨p1, p2⟩ := of_inB hr
  have hz : (b == 0) = false := by simpa using h0
  have sa := sizeZ_nonneg a
  have sa' : sizeZ a ≤ 1152921504606846976 := by unfold sizeZ; split <;> omega
  have sb : 1 ≤ sizeZ b := by unfold sizeZ; split <;> omega
  cases hs : turned a b
  · have HM := Lib.hid (div_straight hs)
    have hr' : inB (sizeZ a / sizeZ b) = true := by rw [div_straight hs]; exact hr
    obtain ⟨r1, r2⟩ := of_inB hr'
    first | replace hs := turned_no hs | replace hs := turned_yes hs
    clear hr p1 p2
    go_enter Tryd.func31, Tryd.ntmps31
    go_wp2_with (first | (go_at_call 20; refine (rin_any _ _).mono ?_; rintro e w' ⟨rfl, rfl⟩) | (go_at_call 41; refine (rsize_any _ _ (by omega) (by omega)).mono ?_; rintro e w' ⟨rfl, rfl⟩))
    go_ret2
    exact ⟨calcRet_of HM.out, rfl⟩
  · have HM := Lib.hid (div_turned hs)
    have hr' : inB (-(sizeZ a / sizeZ b)) = true := by rw [div_turned hs]; exact hr
    obtain ⟨r1, r2⟩ := of_inB hr'
    first | replace hs := turned_no hs | replace hs := turned_yes hs
    clear hr p1 p2
    go_enter Tryd.func31, Tryd.ntmps31
    go_wp2_with (first | (go_at_call 20; refine (rin_any _ _).mono ?_; rintro e w' ⟨rfl, rfl⟩) | (go_at_call 41; refine (rsize_any _ _ (by omega) (by omega)).mono ?_; rintro e w' ⟨rfl, rfl⟩))
    go_ret2
    exact ⟨calcRet_of HM.out, rfl⟩

/-- Both, at any arguments: the same. -/
theorem calc_both (op a b : Int) : ∃ n k : Int, (∀ w : World, Calls Tryd.prog 10 #[.int .i64 op, .int .i64 a, .int .i64 b] w fun e w' => e = calcRet n k ∧ w = w') ∧ (∀ w : World, Calls Tryd.prog 31 #[.int .i64 op, .int .i64 a, .int .i64 b] w fun e w' => e = calcRet n k ∧ w = w') := by
  by_cases ho : 0 ≤ op ∧ op ≤ 3
  · cases ha : inB a
    · exact ⟨0, 1, fun w => calc_arg op a b w (Or.inl ha), fun w => rcalc_arg op a b w ho.1 ho.2 (Or.inl ha)⟩
    cases hb : inB b
    · exact ⟨0, 1, fun w => calc_arg op a b w (Or.inr ⟨ha, hb⟩), fun w => rcalc_arg op a b w ho.1 ho.2 (Or.inr ⟨ha, hb⟩)⟩
    obtain rfl | rfl | rfl | rfl : op = 0 ∨ op = 1 ∨ op = 2 ∨ op = 3 := by omega
    · exact ⟨_, _, fun w => calc_plus a b w ha hb, fun w => rcalc_plus a b w ha hb⟩
    · exact ⟨_, _, fun w => calc_minus a b w ha hb, fun w => rcalc_minus a b w ha hb⟩
    · exact ⟨_, _, fun w => calc_times a b w ha hb, fun w => rcalc_times a b w ha hb⟩
    · by_cases h0 : b = 0
      · subst h0
        exact ⟨_, _, fun w => calc_zero a w ha, fun w => rcalc_zero a w ha⟩
      · exact ⟨_, _, fun w => calc_div a b w ha hb h0, fun w => rcalc_div a b w ha hb h0⟩
  · have h : op < 0 ∨ 3 < op := by omega
    refine ⟨0, 1, fun w => ?_, fun w => rcalc_op op a b w (by omega)⟩
    cases ha : inB a
    · exact calc_arg op a b w (Or.inl ha)
    cases hb : inB b
    · exact calc_arg op a b w (Or.inr ⟨ha, hb⟩)
    · exact calc_op op a b w ha hb h
end Go.Proofs.YtkgdonoilpkiiaaDoor
