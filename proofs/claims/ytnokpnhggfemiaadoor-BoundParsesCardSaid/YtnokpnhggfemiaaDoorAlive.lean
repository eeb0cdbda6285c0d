/- The contract of alive: some numbers are reckoned as they must be. -/
import Derived.Test.YtnokpnhggfemiaaDoorTexts
import Derived.Lib.Strings
namespace Go.Proofs.YtnokpnhggfemiaaDoor
open Go.RowKit

theorem calc_7 (w : World) : Calls Tryd.prog 10 #[.int .i64 3, .int .i64 (-7), .int .i64 2] w fun e w' => e = .returned (.tuple #[.int .i64 (-3), .int .i64 0]) ∧ w = w' :=
  calc_div (-7) 2 w (by decide) (by decide) (by decide)
theorem calc_max (w : World) : Calls Tryd.prog 10 #[.int .i64 2, .int .i64 1152921504606846976, .int .i64 2] w fun e w' => e = .returned (.tuple #[.int .i64 0, .int .i64 10]) ∧ w = w' :=
  calc_times 1152921504606846976 2 w (by decide) (by decide)
theorem right_none (w : World) : Calls Tryd.prog 15 #[.int .i64 4611686018427387904] w fun e w' => e = .returned (.bool true) ∧ w = w' :=
  right_any 4611686018427387904 w
theorem add_edge (w : World) : Calls Tryd.prog 19 #[.int .i64 2305843009213693952, .int .i64 1] w fun e w' => e = .returned (.int .i64 4611686018427387904) ∧ w = w' :=
  add_any 2305843009213693952 1 w
theorem leq_12 (w : World) : Calls Tryd.prog 21 #[.int .i64 1, .int .i64 2] w fun e w' => e = .returned (.bool true) ∧ w = w' :=
  leq_any 1 2 w
theorem parse_12 (w : World) (ht : Tabs w) : Calls Tryd.prog 23 #[.string ⟨#[45, 49, 50]⟩] w fun e w' => e = .returned (.tuple #[.int .i64 (-12), .int .i64 0]) ∧ Below w.heap.size w w' :=
  parse_ok ⟨#[45, 49, 50]⟩ (-12) w ht (by rw [Lib.toList_data]; decide) (by decide) atoi_12 (by rw [Lib.toList_data, itoa_12]; decide)
theorem text_none (w : World) (ht : Tabs w) : Calls Tryd.prog 22 #[.int .i64 4611686018427387904] w fun e w' => e = .returned (.string ⟨#[110, 111, 110, 101]⟩) ∧ Below w.heap.size w w' :=
  text_any 4611686018427387904 w ht

set_option maxHeartbeats 1000000 in
theorem alive_any (w : World) (ht : Tabs w) : Calls Tryd.prog 12 #[] w (RetTrue w) := by
  have Ht := Lib.hid ht
  clear ht
  go_enter Tryd.func12, Tryd.ntmps12
  go_wp2_with (first
    | (go_at_call 10; ((with_reducible refine (calc_7 _).mono ?_); rintro e w' ⟨rfl, rfl⟩))
    | (go_at_call 10; ((with_reducible refine (calc_max _).mono ?_); rintro e w' ⟨rfl, rfl⟩))
    | (go_at_call 23; ((with_reducible refine (parse_12 _ Ht.out).mono ?_); rintro e w1 ⟨rfl, hb1⟩))
    | (go_at_call 13; ((with_reducible refine (in_yes 1152921504606846976 _ (by decide) (by decide)).mono ?_); rintro e w' ⟨rfl, rfl⟩))
    | (go_at_call 15; ((with_reducible refine (right_none _).mono ?_); rintro e w' ⟨rfl, rfl⟩))
    | (go_at_call 19; ((with_reducible refine (add_edge _).mono ?_); rintro e w' ⟨rfl, rfl⟩))
    | (go_at_call 21; ((with_reducible refine (leq_12 _).mono ?_); rintro e w' ⟨rfl, rfl⟩))
    | (go_at_call 22; ((with_reducible refine (text_none _ (Ht.out.stays (by assumption))).mono ?_); rintro e w2 ⟨rfl, hb2⟩)))
  go_ret
  exact ⟨rfl, below_trans (by assumption) (by assumption)⟩
end Go.Proofs.YtnokpnhggfemiaaDoor
