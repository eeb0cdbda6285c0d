/- The walk of BoundUndo: it returns true at any two numbers. -/
import Derived.Test.YtnokpnhggfemiaaDoorAlive
namespace Go.Proofs.YtnokpnhggfemiaaDoor
open Go.RowKit

/-- Calc at these arguments hands back these two numbers, and leaves the world. -/
def CalcIs (op a b n k : Int) : Prop := ∀ w : World, Calls Tryd.prog 10 #[.int .i64 op, .int .i64 a, .int .i64 b] w fun e w' => e = .returned (.tuple #[.int .i64 n, .int .i64 k]) ∧ w = w'

theorem CalcIs.runs {op a b n k : Int} (h : CalcIs op a b n k) (w : World) : Calls Tryd.prog 10 #[.int .i64 op, .int .i64 a, .int .i64 b] w fun e w' => e = .returned (.tuple #[.int .i64 n, .int .i64 k]) ∧ w = w' := h w

theorem calcIs_arg (op : Int) {a b : Int} (h : inB a = false ∨ (inB a = true ∧ inB b = false)) : CalcIs op a b 0 1 := fun w => calc_arg op a b w h
theorem calcIs_plus {a b : Int} (ha : inB a = true) (hb : inB b = true) (h : inB (a + b) = true) : CalcIs 0 a b (a + b) 0 := fun w => by
  have := calc_plus a b w ha hb
  rw [resN_yes h, resE_yes h] at this
  exact this
theorem calcIs_plus_no {a b : Int} (ha : inB a = true) (hb : inB b = true) (h : inB (a + b) = false) : CalcIs 0 a b 0 10 := fun w => by
  have := calc_plus a b w ha hb
  rw [resN_no h, resE_no h] at this
  exact this
theorem calcIs_times {a b : Int} (ha : inB a = true) (hb : inB b = true) (h : inB (a * b) = true) : CalcIs 2 a b (a * b) 0 := fun w => by
  have := calc_times a b w ha hb
  rw [resN_yes h, resE_yes h] at this
  exact this
theorem calcIs_times_no {a b : Int} (ha : inB a = true) (hb : inB b = true) (h : inB (a * b) = false) : CalcIs 2 a b 0 10 := fun w => by
  have := calc_times a b w ha hb
  rw [resN_no h, resE_no h] at this
  exact this
theorem calcIs_back {a b : Int} (ha : inB a = true) (hb : inB b = true) (h : inB (a + b) = true) : CalcIs 1 (a + b) b a 0 := fun w => by
  have := calc_minus (a + b) b w h hb
  rw [show a + b - b = a by omega, resN_yes ha, resE_yes ha] at this
  exact this
theorem calcIs_by {a b : Int} (ha : inB a = true) (hb : inB b = true) (h0 : ¬ b = 0) (h : inB (a * b) = true) : CalcIs 3 (a * b) b a 0 := fun w => by
  have := calc_div (a * b) b w h hb h0
  rw [Int.mul_tdiv_cancel a h0, resN_yes ha, resE_yes ha] at this
  exact this

/-- What is asked first, and what is asked behind it. -/
theorem undo_parts (a b : Int) : (CalcIs 0 a b 0 1 ∧ CalcIs 2 a b 0 1) ∨ ((CalcIs 0 a b 0 10 ∨ (CalcIs 0 a b (a + b) 0 ∧ CalcIs 1 (a + b) b a 0)) ∧ (CalcIs 2 a b 0 10 ∨ (CalcIs 2 a b (a * b) 0 ∧ (b = 0 ∨ ((b == 0) = false ∧ CalcIs 3 (a * b) b a 0))))) := by
  cases ha : inB a
  · exact Or.inl ⟨calcIs_arg 0 (Or.inl ha), calcIs_arg 2 (Or.inl ha)⟩
  cases hb : inB b
  · exact Or.inl ⟨calcIs_arg 0 (Or.inr ⟨ha, hb⟩), calcIs_arg 2 (Or.inr ⟨ha, hb⟩)⟩
  refine Or.inr ⟨?_, ?_⟩
  · cases h : inB (a + b)
    · exact Or.inl (calcIs_plus_no ha hb h)
    · exact Or.inr ⟨calcIs_plus ha hb h, calcIs_back ha hb h⟩
  · cases h : inB (a * b)
    · exact Or.inl (calcIs_times_no ha hb h)
    · refine Or.inr ⟨calcIs_times ha hb h, ?_⟩
      by_cases h0 : b = 0
      · exact Or.inl h0
      · exact Or.inr ⟨by simpa using h0, calcIs_by ha hb h0 h⟩

set_option maxHeartbeats 1000000 in
theorem undo_none (a b : Int) (w : World) (ht : Tabs w) (n k m l : Int) (hk : (k == 0) = false) (hl : (l == 0) = false) (h0 : CalcIs 0 a b n k) (h2 : CalcIs 2 a b m l) :
    Calls Tryd.prog 8 #[.int .i64 a, .int .i64 b] w (RetTrue w) := by
  have H0 := Lib.hid h0
  have H2 := Lib.hid h2
  have HA := Lib.hid (alive_any w ht)
  clear h0 h2 ht
  go_enter Tryd.func8, Tryd.ntmps8
  go_wp2_with (first
    | (go_at_call 10; ((with_reducible refine (H0.out.runs _).mono ?_); rintro e w' ⟨rfl, rfl⟩))
    | (go_at_call 10; ((with_reducible refine (H2.out.runs _).mono ?_); rintro e w' ⟨rfl, rfl⟩))
    | (go_at_call 12; ((with_reducible refine HA.out.mono ?_); rintro e w' ⟨rfl, hb⟩)))
  go_ret
  exact ⟨rfl, by assumption⟩

set_option maxHeartbeats 1000000 in
theorem undo_plus (a b : Int) (w : World) (ht : Tabs w) (s m l : Int) (hl : (l == 0) = false) (h0 : CalcIs 0 a b s 0) (h1 : CalcIs 1 s b a 0) (h2 : CalcIs 2 a b m l) :
    Calls Tryd.prog 8 #[.int .i64 a, .int .i64 b] w (RetTrue w) := by
  have H0 := Lib.hid h0
  have H1 := Lib.hid h1
  have H2 := Lib.hid h2
  have HA := Lib.hid (alive_any w ht)
  clear h0 h1 h2 ht
  go_enter Tryd.func8, Tryd.ntmps8
  go_wp2_with (first
    | (go_at_call 10; ((with_reducible refine (H0.out.runs _).mono ?_); rintro e w' ⟨rfl, rfl⟩))
    | (go_at_call 10; ((with_reducible refine (H1.out.runs _).mono ?_); rintro e w' ⟨rfl, rfl⟩))
    | (go_at_call 10; ((with_reducible refine (H2.out.runs _).mono ?_); rintro e w' ⟨rfl, rfl⟩))
    | (go_at_call 12; ((with_reducible refine HA.out.mono ?_); rintro e w' ⟨rfl, hb⟩)))
  go_ret
  exact ⟨rfl, by assumption⟩

set_option maxHeartbeats 1000000 in
theorem undo_plus_zero (a : Int) (w : World) (ht : Tabs w) (s m : Int) (h0 : CalcIs 0 a 0 s 0) (h1 : CalcIs 1 s 0 a 0) (h2 : CalcIs 2 a 0 m 0) :
    Calls Tryd.prog 8 #[.int .i64 a, .int .i64 0] w (RetTrue w) := by
  have H0 := Lib.hid h0
  have H1 := Lib.hid h1
  have H2 := Lib.hid h2
  have HA := Lib.hid (alive_any w ht)
  clear h0 h1 h2 ht
  go_enter Tryd.func8, Tryd.ntmps8
  go_wp2_with (first
    | (go_at_call 10; ((with_reducible refine (H0.out.runs _).mono ?_); rintro e w' ⟨rfl, rfl⟩))
    | (go_at_call 10; ((with_reducible refine (H1.out.runs _).mono ?_); rintro e w' ⟨rfl, rfl⟩))
    | (go_at_call 10; ((with_reducible refine (H2.out.runs _).mono ?_); rintro e w' ⟨rfl, rfl⟩))
    | (go_at_call 12; ((with_reducible refine HA.out.mono ?_); rintro e w' ⟨rfl, hb⟩)))
  go_ret
  exact ⟨rfl, by assumption⟩

set_option maxHeartbeats 1000000 in
theorem undo_zero (a : Int) (w : World) (ht : Tabs w) (n k m : Int) (hk : (k == 0) = false) (h0 : CalcIs 0 a 0 n k) (h2 : CalcIs 2 a 0 m 0) :
    Calls Tryd.prog 8 #[.int .i64 a, .int .i64 0] w (RetTrue w) := by
  have H0 := Lib.hid h0
  have H2 := Lib.hid h2
  have HA := Lib.hid (alive_any w ht)
  clear h0 h2 ht
  go_enter Tryd.func8, Tryd.ntmps8
  go_wp2_with (first
    | (go_at_call 10; ((with_reducible refine (H0.out.runs _).mono ?_); rintro e w' ⟨rfl, rfl⟩))
    | (go_at_call 10; ((with_reducible refine (H2.out.runs _).mono ?_); rintro e w' ⟨rfl, rfl⟩))
    | (go_at_call 12; ((with_reducible refine HA.out.mono ?_); rintro e w' ⟨rfl, hb⟩)))
  go_ret
  exact ⟨rfl, by assumption⟩

set_option maxHeartbeats 1000000 in
theorem undo_times (a b : Int) (w : World) (ht : Tabs w) (n k p : Int) (hk : (k == 0) = false) (hz : (b == 0) = false) (h0 : CalcIs 0 a b n k) (h2 : CalcIs 2 a b p 0) (h3 : CalcIs 3 p b a 0) :
    Calls Tryd.prog 8 #[.int .i64 a, .int .i64 b] w (RetTrue w) := by
  have H0 := Lib.hid h0
  have H2 := Lib.hid h2
  have H3 := Lib.hid h3
  have HA := Lib.hid (alive_any w ht)
  clear h0 h2 h3 ht
  go_enter Tryd.func8, Tryd.ntmps8
  go_wp2_with (first
    | (go_at_call 10; ((with_reducible refine (H0.out.runs _).mono ?_); rintro e w' ⟨rfl, rfl⟩))
    | (go_at_call 10; ((with_reducible refine (H2.out.runs _).mono ?_); rintro e w' ⟨rfl, rfl⟩))
    | (go_at_call 10; ((with_reducible refine (H3.out.runs _).mono ?_); rintro e w' ⟨rfl, rfl⟩))
    | (go_at_call 12; ((with_reducible refine HA.out.mono ?_); rintro e w' ⟨rfl, hb⟩)))
  go_ret
  exact ⟨rfl, by assumption⟩

set_option maxHeartbeats 1000000 in
theorem undo_both (a b : Int) (w : World) (ht : Tabs w) (s p : Int) (hz : (b == 0) = false) (h0 : CalcIs 0 a b s 0) (h1 : CalcIs 1 s b a 0) (h2 : CalcIs 2 a b p 0) (h3 : CalcIs 3 p b a 0) :
    Calls Tryd.prog 8 #[.int .i64 a, .int .i64 b] w (RetTrue w) := by
  have H0 := Lib.hid h0
  have H1 := Lib.hid h1
  have H2 := Lib.hid h2
  have H3 := Lib.hid h3
  have HA := Lib.hid (alive_any w ht)
  clear h0 h1 h2 h3 ht
  go_enter Tryd.func8, Tryd.ntmps8
  go_wp2_with (first
    | (go_at_call 10; ((with_reducible refine (H0.out.runs _).mono ?_); rintro e w' ⟨rfl, rfl⟩))
    | (go_at_call 10; ((with_reducible refine (H1.out.runs _).mono ?_); rintro e w' ⟨rfl, rfl⟩))
    | (go_at_call 10; ((with_reducible refine (H2.out.runs _).mono ?_); rintro e w' ⟨rfl, rfl⟩))
    | (go_at_call 10; ((with_reducible refine (H3.out.runs _).mono ?_); rintro e w' ⟨rfl, rfl⟩))
    | (go_at_call 12; ((with_reducible refine HA.out.mono ?_); rintro e w' ⟨rfl, hb⟩)))
  go_ret
  exact ⟨rfl, by assumption⟩

theorem undo_walk (a b : Int) (w : World) (ht : Tabs w) : Calls Tryd.prog 8 #[.int .i64 a, .int .i64 b] w (RetTrue w) := by
  rcases undo_parts a b with ⟨h0, h2⟩ | ⟨h0 | ⟨h0, h1⟩, h2 | ⟨h2, rfl | ⟨hz, h3⟩⟩⟩
  · exact undo_none a b w ht _ _ _ _ (by decide) (by decide) h0 h2
  · exact undo_none a b w ht _ _ _ _ (by decide) (by decide) h0 h2
  · exact undo_zero a w ht _ _ _ (by decide) h0 h2
  · exact undo_times a b w ht _ _ _ (by decide) hz h0 h2 h3
  · exact undo_plus a b w ht _ _ _ (by decide) h0 h1 h2
  · exact undo_plus_zero a w ht _ _ h0 h1 h2
  · exact undo_both a b w ht _ _ hz h0 h1 h2 h3
end Go.Proofs.YtnokpnhggfemiaaDoor
