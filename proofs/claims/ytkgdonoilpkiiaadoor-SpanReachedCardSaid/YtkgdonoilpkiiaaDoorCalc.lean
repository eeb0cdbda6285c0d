/- The contract of Calc: two whole numbers reckoned, at any arguments. -/
import Derived.Test.YtkgdonoilpkiiaaDoorWalks
import Derived.BigGuard
namespace Go.Proofs.YtkgdonoilpkiiaaDoor
open Go.RowKit

/-- What Calc hands back. -/
def calcRet (n e : Int) : Ending := .returned (.tuple #[.int .i64 n, .int .i64 e])

set_option maxHeartbeats 1000000 in
theorem calc_arg (op a b : Int) (w : World) (h : inB a = false ∨ (inB a = true ∧ inB b = false)) :
    Calls Tryd.prog 10 #[.int .i64 op, .int .i64 a, .int .i64 b] w fun e w' => e = calcRet 0 1 ∧ w = w' := by
  rcases h with h | ⟨h, h'⟩
  all_goals
    go_enter Tryd.func10, Tryd.ntmps10
    go_wp2_with (go_at_call 16; refine (in_any _ _).mono ?_; rintro e w' ⟨rfl, rfl⟩)
    go_ret2
    exact ⟨rfl, rfl⟩

set_option maxHeartbeats 1000000 in
theorem calc_op (op a b : Int) (w : World) (ha : inB a = true) (hb : inB b = true) (h : op < 0 ∨ 3 < op) :
    Calls Tryd.prog 10 #[.int .i64 op, .int .i64 a, .int .i64 b] w fun e w' => e = calcRet 0 1 ∧ w = w' := by
  have o0 : (op == 0) = false := by simp; omega
  have o1 : (op == 1) = false := by simp; omega
  have o2 : (op == 2) = false := by simp; omega
  have o3 : (op == 3) = false := by simp; omega
  clear h
  go_enter Tryd.func10, Tryd.ntmps10
  go_wp2_with (go_at_call 16; refine (in_any _ _).mono ?_; rintro e w' ⟨rfl, rfl⟩)
  go_ret2
  exact ⟨rfl, rfl⟩

set_option maxHeartbeats 1000000 in
theorem calc_plus (a b : Int) (w : World) (ha : inB a = true) (hb : inB b = true) :
    Calls Tryd.prog 10 #[.int .i64 0, .int .i64 a, .int .i64 b] w fun e w' => e = calcRet (resN (a + b)) (resE (a + b)) ∧ w = w' := by
  obtain ⟨a1, a2⟩ := of_inB ha
  obtain ⟨b1, b2⟩ := of_inB hb
  cases hr : inB (a + b)
  · rw [resN_no hr, resE_no hr]
    go_enter Tryd.func10, Tryd.ntmps10
    go_wp2_with (go_at_call 16; refine (in_any _ _).mono ?_; rintro e w' ⟨rfl, rfl⟩)
    go_ret2
    exact ⟨rfl, rfl⟩
  · rw [resN_yes hr, resE_yes hr]
    go_enter Tryd.func10, Tryd.ntmps10
    go_wp2_with (go_at_call 16; refine (in_any _ _).mono ?_; rintro e w' ⟨rfl, rfl⟩)
    go_ret2
    exact ⟨rfl, rfl⟩

set_option maxHeartbeats 1000000 in
theorem calc_minus (a b : Int) (w : World) (ha : inB a = true) (hb : inB b = true) :
    Calls Tryd.prog 10 #[.int .i64 1, .int .i64 a, .int .i64 b] w fun e w' => e = calcRet (resN (a - b)) (resE (a - b)) ∧ w = w' := by
  obtain ⟨a1, a2⟩ := of_inB ha
  obtain ⟨b1, b2⟩ := of_inB hb
  rw [show a - b = a + -b by omega]
  cases hr : inB (a + -b)
  · rw [resN_no hr, resE_no hr]
    go_enter Tryd.func10, Tryd.ntmps10
    go_wp2_with (go_at_call 16; refine (in_any _ _).mono ?_; rintro e w' ⟨rfl, rfl⟩)
    go_ret2
    exact ⟨rfl, rfl⟩
  · rw [resN_yes hr, resE_yes hr]
    go_enter Tryd.func10, Tryd.ntmps10
    go_wp2_with (go_at_call 16; refine (in_any _ _).mono ?_; rintro e w' ⟨rfl, rfl⟩)
    go_ret2
    exact ⟨rfl, rfl⟩

set_option maxHeartbeats 1000000 in
theorem calc_times (a b : Int) (w : World) (ha : inB a = true) (hb : inB b = true) :
    Calls Tryd.prog 10 #[.int .i64 2, .int .i64 a, .int .i64 b] w fun e w' => e = calcRet (resN (a * b)) (resE (a * b)) ∧ w = w' := by
  obtain ⟨a1, a2⟩ := of_inB ha
  obtain ⟨b1, b2⟩ := of_inB hb
  have hf := fitsB_mul a b
  cases hr : inB (a * b)
  · rw [resN_no hr, resE_no hr]
    rw [hr] at hf
    clear hr
    go_enter Tryd.func10, Tryd.ntmps10
    go_wp2_with (first | (go_at_call 16; refine (in_any _ _).mono ?_; rintro e w' ⟨rfl, rfl⟩) | (go_at_call 27; refine (fits_any _ _ _ (by assumption) (by assumption) (by assumption) (by assumption)).mono ?_; rintro e w' ⟨rfl, rfl⟩))
    go_ret2
    exact ⟨rfl, rfl⟩
  · rw [resN_yes hr, resE_yes hr]
    rw [hr] at hf
    obtain ⟨p1, p2⟩ := of_inB hr
    go_enter Tryd.func10, Tryd.ntmps10
    go_wp2_with (first | (go_at_call 16; refine (in_any _ _).mono ?_; rintro e w' ⟨rfl, rfl⟩) | (go_at_call 27; refine (fits_any _ _ _ (by assumption) (by assumption) (by assumption) (by assumption)).mono ?_; rintro e w' ⟨rfl, rfl⟩))
    go_ret2
    exact ⟨rfl, rfl⟩

set_option maxHeartbeats 1000000 in
theorem calc_zero (a : Int) (w : World) (ha : inB a = true) :
    Calls Tryd.prog 10 #[.int .i64 3, .int .i64 a, .int .i64 0] w fun e w' => e = calcRet 0 11 ∧ w = w' := by
  have hb : inB 0 = true := by decide
  go_enter Tryd.func10, Tryd.ntmps10
  go_wp2_with (go_at_call 16; refine (in_any _ _).mono ?_; rintro e w' ⟨rfl, rfl⟩)
  go_ret2
  exact ⟨rfl, rfl⟩

set_option maxHeartbeats 1000000 in
theorem calc_div (a b : Int) (w : World) (ha : inB a = true) (hb : inB b = true) (h0 : ¬ b = 0) :
    Calls Tryd.prog 10 #[.int .i64 3, .int .i64 a, .int .i64 b] w fun e w' => e = calcRet (resN (a.tdiv b)) (resE (a.tdiv b)) ∧ w = w' := by
  obtain ⟨a1, a2⟩ := of_inB ha
  obtain ⟨b1, b2⟩ := of_inB hb
  have hr := inB_tdiv (b := b) ha
  rw [resN_yes hr, resE_yes hr]
  obtain ⟨p1, p2⟩ := of_inB hr
  have hz : (b == 0) = false := by simpa using h0
  go_enter Tryd.func10, Tryd.ntmps10
  go_wp2_with (go_at_call 16; refine (in_any _ _).mono ?_; rintro e w' ⟨rfl, rfl⟩)
  go_ret2
  exact ⟨rfl, rfl⟩
end Go.Proofs.YtkgdonoilpkiiaaDoor
