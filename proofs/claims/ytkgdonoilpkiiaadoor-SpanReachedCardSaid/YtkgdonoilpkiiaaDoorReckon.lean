/- The contract of reckon: what comes of two whole numbers, or the number next to the whole ones. -/
import Derived.Test.YtkgdonoilpkiiaaDoorCalc
import Derived.Test.YtkgdonoilpkiiaaDoorHullNums
namespace Go.Proofs.YtkgdonoilpkiiaaDoor
open Go.RowKit

/-- What may be reckoned. -/
def may (op x y : Int) : Prop := 0 ≤ op ∧ op ≤ 3 ∧ inB x = true ∧ inB y = true ∧ ¬ (op = 3 ∧ y = 0)

theorem calc_may {op x y : Int} (h : may op x y) (w : World) : Calls Tryd.prog 10 #[.int .i64 op, .int .i64 x, .int .i64 y] w fun e w' => e = calcRet (resN (opR op x y)) (resE (opR op x y)) ∧ w = w' := by
  obtain ⟨h0, h3, hx, hy, hz⟩ := h
  rcases (by omega : op = 0 ∨ op = 1 ∨ op = 2 ∨ op = 3) with rfl | rfl | rfl | rfl
  · exact calc_plus x y w hx hy
  · exact calc_minus x y w hx hy
  · exact calc_times x y w hx hy
  · exact calc_div x y w hx hy (fun e => hz ⟨rfl, e⟩)

theorem calc_in {op x y : Int} (h : may op x y) (hr : inB (opR op x y) = true) (w : World) : Calls Tryd.prog 10 #[.int .i64 op, .int .i64 x, .int .i64 y] w fun e w' => e = .returned (.tuple #[.int .i64 (opR op x y), .int .i64 0]) ∧ w = w' := by
  have := calc_may h w
  rw [resN_yes hr, resE_yes hr] at this
  exact this
theorem calc_over {op x y : Int} (h : may op x y) (hr : inB (opR op x y) = false) (w : World) : Calls Tryd.prog 10 #[.int .i64 op, .int .i64 x, .int .i64 y] w fun e w' => e = .returned (.tuple #[.int .i64 0, .int .i64 10]) ∧ w = w' := by
  have := calc_may h w
  rw [resN_no hr, resE_no hr] at this
  exact this

theorem cut_in {n : Int} (h : inB n = true) : cut n = n := by
  have := of_inB h
  rcases cut_cases n with c | c | c <;> omega

/-- On which side it is. -/
theorem over_side {op x y : Int} (h : may op x y) (hr : inB (opR op x y) = false) :
    ((op == 2) = false ∧ ((0 < x ∧ cut (opR op x y) = 1152921504606846977) ∨ (¬ 0 < x ∧ cut (opR op x y) = -1152921504606846977))) ∨
    (op = 2 ∧ ((y < 0 ∧ ((0 < x ∧ cut (opR op x y) = -1152921504606846977) ∨ (¬ 0 < x ∧ cut (opR op x y) = 1152921504606846977))) ∨
      (decide (y < 0) = false ∧ ((0 < x ∧ cut (opR op x y) = 1152921504606846977) ∨ (¬ 0 < x ∧ cut (opR op x y) = -1152921504606846977))))) := by
  obtain ⟨h0, h3, hx, hy, hz⟩ := h
  have bx := of_inB hx
  have byy := of_inB hy
  have br := of_not_inB hr
  rcases (by omega : op = 0 ∨ op = 1 ∨ op = 2 ∨ op = 3) with rfl | rfl | rfl | rfl
  · left
    have e : opR 0 x y = x + y := rfl
    rw [e] at br ⊢
    refine ⟨rfl, ?_⟩
    rcases cut_cases (x + y) with c | c | c <;> by_cases h : 0 < x <;> omega
  · left
    have e : opR 1 x y = x - y := rfl
    rw [e] at br ⊢
    refine ⟨rfl, ?_⟩
    rcases cut_cases (x - y) with c | c | c <;> by_cases h : 0 < x <;> omega
  · right
    have e : opR 2 x y = x * y := rfl
    rw [e] at br ⊢
    refine ⟨rfl, ?_⟩
    by_cases hy' : y < 0
    · left
      refine ⟨hy', ?_⟩
      by_cases h : 0 < x
      · have := Int.mul_nonpos_of_nonneg_of_nonpos (show 0 ≤ x by omega) (show y ≤ 0 by omega)
        rcases cut_cases (x * y) with c | c | c <;> omega
      · have := Int.mul_nonneg_of_nonpos_of_nonpos (show x ≤ 0 by omega) (show y ≤ 0 by omega)
        rcases cut_cases (x * y) with c | c | c <;> omega
    · right
      refine ⟨decide_eq_false hy', ?_⟩
      by_cases h : 0 < x
      · have := Int.mul_nonneg (show 0 ≤ x by omega) (show 0 ≤ y by omega)
        rcases cut_cases (x * y) with c | c | c <;> omega
      · have := Int.mul_nonpos_of_nonpos_of_nonneg (show x ≤ 0 by omega) (show 0 ≤ y by omega)
        rcases cut_cases (x * y) with c | c | c <;> omega
  · have e : opR 3 x y = x.tdiv y := rfl
    rw [e, inB_tdiv hx] at hr
    cases hr

set_option maxHeartbeats 800000 in
theorem reckon_in (op x y : Int) (w : World) (h : may op x y) (hr : inB (opR op x y) = true) : Calls Tryd.prog 29 #[.int .i64 op, .int .i64 x, .int .i64 y] w fun e w' => e = .returned (.int .i64 (opR op x y)) ∧ w = w' := by
  have H := Lib.hid (calc_in h hr w)
  clear h hr
  go_enter Tryd.func29, Tryd.ntmps29
  go_wp2_with (first | (go_at_call 10; ((with_reducible refine H.out.mono ?_); rintro e w' ⟨rfl, rfl⟩)))
  go_ret
  exact ⟨rfl, rfl⟩

set_option maxHeartbeats 1600000 in
theorem reckon_over (op x y r : Int) (w : World) (h : may op x y) (hr : inB (opR op x y) = false) (he : cut (opR op x y) = r) : Calls Tryd.prog 29 #[.int .i64 op, .int .i64 x, .int .i64 y] w fun e w' => e = .returned (.int .i64 r) ∧ w = w' := by
  have hs := over_side h hr
  rw [he] at hs
  have H := Lib.hid (calc_over h hr w)
  clear h hr he
  rcases hs with ⟨ho, ⟨h, rfl⟩ | ⟨h, rfl⟩⟩ | ⟨rfl, ⟨hy, ⟨h, rfl⟩ | ⟨h, rfl⟩⟩ | ⟨hy, ⟨h, rfl⟩ | ⟨h, rfl⟩⟩⟩
  all_goals
    first | replace h := decide_eq_false (show ¬ 0 < x from h) | skip
    go_enter Tryd.func29, Tryd.ntmps29
    go_wp2_with (first | (go_at_call 10; ((with_reducible refine H.out.mono ?_); rintro e w' ⟨rfl, rfl⟩)))
    go_ret
    exact ⟨rfl, rfl⟩

theorem reckon_any (op x y : Int) (w : World) (h : may op x y) : Calls Tryd.prog 29 #[.int .i64 op, .int .i64 x, .int .i64 y] w fun e w' => e = .returned (.int .i64 (cut (opR op x y))) ∧ w = w' := by
  cases hr : inB (opR op x y)
  · exact reckon_over op x y _ w h hr rfl
  · rw [cut_in hr]; exact reckon_in op x y w h hr
end Go.Proofs.YtkgdonoilpkiiaaDoor
