/- The contract of the document's one: what comes of two numbers, as far as it is between two bounds. -/
import Derived.Test.YtkgdonoilpkiiaaDoorRefCalc
import Derived.Test.YtkgdonoilpkiiaaDoorReckon
import Derived.Test.YtkgdonoilpkiiaaDoorRefWalks
namespace Go.Proofs.YtkgdonoilpkiiaaDoor
open Go.RowKit

/-- What one tells. -/
def oneR (op x y : Int) : Int := if op = 2 then (if inB (x * y) = true then x * y else if turned x y = true then -2305843009213693952 else 2305843009213693952) else opR op x y
theorem oneR_bd {op x y : Int} (h : may op x y) : -2305843009213693952 ≤ oneR op x y ∧ oneR op x y ≤ 2305843009213693952 := by
  obtain ⟨h0, h3, hx, hy, hz⟩ := h
  have bx := of_inB hx
  have byy := of_inB hy
  unfold oneR
  by_cases e : op = 2
  · rw [if_pos e]
    cases hb : inB (x * y)
    · simp only [Bool.false_eq_true, if_false]; split <;> omega
    · have := of_inB hb; simp only [if_true]; omega
  · rw [if_neg e]
    rcases (by omega : op = 0 ∨ op = 1 ∨ op = 3) with rfl | rfl | rfl
    · show _ ≤ x + y ∧ x + y ≤ _; omega
    · show _ ≤ x - y ∧ x - y ≤ _; omega
    · show _ ≤ x.tdiv y ∧ x.tdiv y ≤ _
      have := of_inB (inB_tdiv (b := y) hx)
      omega
/-- Up to how far off it is, it is what comes of both. -/
theorem oneR_cut {op x y : Int} (h : may op x y) : cut (oneR op x y) = cut (opR op x y) ∧ inB (oneR op x y) = inB (opR op x y) := by
  obtain ⟨h0, h3, hx, hy, hz⟩ := h
  unfold oneR
  by_cases e : op = 2
  · subst e
    rw [if_pos rfl]
    have e : opR 2 x y = x * y := rfl
    rw [e]
    cases hb : inB (x * y)
    · have hn := of_not_inB hb
      cases ht : turned x y
      · have := mul_straight ht
        have := sizeZ_nonneg (x * y)
        have e1 : inB 2305843009213693952 = false := by decide
        simp only [Bool.false_eq_true, if_false]
        refine ⟨?_, e1⟩
        rcases cut_cases (x * y) with c | c | c
        · rw [c.2]; decide
        · omega
        · omega
      · have := mul_turned' ht
        have := sizeZ_nonneg (x * y)
        have e1 : inB (-2305843009213693952) = false := by decide
        simp only [Bool.false_eq_true, if_false, if_true]
        refine ⟨?_, e1⟩
        rcases cut_cases (x * y) with c | c | c
        · omega
        · rw [c.2]; decide
        · omega
    · exact ⟨by simp, by simp [hb]⟩
  · rw [if_neg e]; exact ⟨rfl, rfl⟩

/-- It is handed back, with true. -/
def RetNum (n : Int) (w : World) (e : Ending) (w' : World) : Prop := e = .returned (.tuple #[.int .i64 n, .bool true]) ∧ w = w'

set_option maxHeartbeats 1600000 in
theorem one_times (x y : Int) (w : World) (hx : inB x = true) (hy : inB y = true) : Calls Tryd.prog 19 #[.int .i64 2, .int .i64 x, .int .i64 y] w (RetNum (oneR 2 x y) w) := by
  have e : oneR 2 x y = if inB (x * y) = true then x * y else if turned x y = true then -2305843009213693952 else 2305843009213693952 := if_pos rfl
  rw [e]
  clear e
  have hc := rcalc_times x y w hx hy
  cases hb : inB (x * y)
  · rw [resN_no hb, resE_no hb] at hc
    have HC := Lib.hid hc
    clear hc
    cases ht : turned x y
    · have t := turned_no ht
      simp only [Bool.false_eq_true, if_false]
      clear ht hb hx hy
      go_enter Tryd.func19, Tryd.ntmps19
      go_wp2_with (first | (go_at_call 31; refine HC.out.mono ?_; rintro e w' ⟨rfl, rfl⟩; unfold calcRet) | (go_at_call 32; refine (edge_any _).mono ?_; rintro e w' ⟨rfl, rfl⟩))
      go_ret2
      exact ⟨rfl, rfl⟩
    · have t := turned_yes ht
      simp only [Bool.false_eq_true, if_false, if_true]
      clear ht hb hx hy
      go_enter Tryd.func19, Tryd.ntmps19
      go_wp2_with (first | (go_at_call 31; refine HC.out.mono ?_; rintro e w' ⟨rfl, rfl⟩; unfold calcRet) | (go_at_call 32; refine (edge_any _).mono ?_; rintro e w' ⟨rfl, rfl⟩))
      go_ret2
      exact ⟨rfl, rfl⟩
  · rw [resN_yes hb, resE_yes hb] at hc
    have HC := Lib.hid hc
    clear hc
    simp only [if_true]
    clear hb hx hy
    go_enter Tryd.func19, Tryd.ntmps19
    go_wp2_with (first | (go_at_call 31; refine HC.out.mono ?_; rintro e w' ⟨rfl, rfl⟩; unfold calcRet))
    go_ret2
    exact ⟨rfl, rfl⟩

set_option maxHeartbeats 800000 in
theorem one_any {op x y : Int} (h : may op x y) (w : World) : Calls Tryd.prog 19 #[.int .i64 op, .int .i64 x, .int .i64 y] w (RetNum (oneR op x y) w) := by
  obtain ⟨h0, h3, hx, hy, hz⟩ := h
  have bx := of_inB hx
  have byy := of_inB hy
  rcases (by omega : op = 0 ∨ op = 1 ∨ op = 2 ∨ op = 3) with rfl | rfl | rfl | rfl
  · clear hz hx hy
    show Calls Tryd.prog 19 _ w (RetNum (x + y) w)
    go_enter Tryd.func19, Tryd.ntmps19
    go_wp2_with fail
    go_ret2
    exact ⟨rfl, rfl⟩
  · clear hz hx hy
    show Calls Tryd.prog 19 _ w (RetNum (x - y) w)
    go_enter Tryd.func19, Tryd.ntmps19
    go_wp2_with fail
    go_ret2
    exact ⟨rfl, rfl⟩
  · exact one_times x y w hx hy
  · have hne : ¬ y = 0 := fun e => hz ⟨rfl, e⟩
    have hne' : (y == 0) = false := by simpa using hne
    have hd := of_inB (inB_tdiv (b := y) hx)
    clear hz hx hy
    show Calls Tryd.prog 19 _ w (RetNum (x.tdiv y) w)
    go_enter Tryd.func19, Tryd.ntmps19
    go_wp2_with fail
    go_ret2
    exact ⟨rfl, rfl⟩

set_option maxHeartbeats 800000 in
theorem one_zero (x : Int) (w : World) : Calls Tryd.prog 19 #[.int .i64 3, .int .i64 x, .int .i64 0] w fun e w' => e = .returned (.tuple #[.int .i64 0, .bool false]) ∧ w = w' := by
  go_enter Tryd.func19, Tryd.ntmps19
  go_wp2_with fail
  go_ret2
  exact ⟨rfl, rfl⟩
end Go.Proofs.YtkgdonoilpkiiaaDoor
