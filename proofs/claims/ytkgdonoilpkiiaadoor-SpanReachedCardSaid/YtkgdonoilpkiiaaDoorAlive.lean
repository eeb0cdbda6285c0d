/- The contract of alive: some spans are reckoned as they must be. -/
import Derived.Test.YtkgdonoilpkiiaaDoorTexts
import Derived.Test.YtkgdonoilpkiiaaDoorCalcSome
import Derived.Test.YtkgdonoilpkiiaaDoorWiden
namespace Go.Proofs.YtkgdonoilpkiiaaDoor
open Go.RowKit
attribute [local go_sem ↓] Go.wp_at_zero Go.wp_at_succ eq24 eq23 neq24 eqg24 eqg23

/-- It returned true; what was there is as it was. -/
def RetTrue (w : World) (e : Ending) (w' : World) : Prop := e = .returned (.bool true) ∧ Below w.heap.size w w'

/-- Two numbers, in a row. -/
def two (a b : Int) : Nat → Int
  | 0 => a
  | _ => b
theorem ints_two (w : World) (a b : Int) : Ints (w.alloc (.cells #[.int .i64 a, .int .i64 b] 3)) (some ⟨w.heap.size, 0, none⟩) 2 (two a b) := fun _ => by
  refine ⟨w.heap.size, 0, rfl, by simp, fun j hj => ?_⟩
  rcases (by omega : j = 0 ∨ j = 1) with rfl | rfl <;> go_simp <;> rfl

theorem calc_alive (w : World) : Calls Tryd.prog 5 #[.int .i64 3, .agg #[.int .i64 1, .int .i64 7], .agg #[.int .i64 (-2), .int .i64 2]] w (RetCalc (-7) 7 true w) := by
  have h := scalc_some_any 3 1 7 (-2) 2 w (by decide) (by decide) (by decide +kernel) (by decide +kernel)
  have e1 : hullL (endsF 3 1 7 (-2) 2) (endsL 3 1 7 (-2) 2).length = -7 := by decide +kernel
  have e2 : hullH (endsF 3 1 7 (-2) 2) (endsL 3 1 7 (-2) 2).length = 7 := by decide +kernel
  have e3 : wrB (endsF 3 1 7 (-2) 2) (wrong0 3 (-2) 2) (endsL 3 1 7 (-2) 2).length = true := by decide +kernel
  rw [e1, e2, e3] at h
  exact h
theorem ints_two_drew (w : World) (a b : Int) (g : Nat) (hg : w.heap.size = g) : Ints ((w.alloc (.cells #[.int .i64 a, .int .i64 b] 3)).drew) (some ⟨g, 0, none⟩) 2 (two a b) := fun h => by
  subst hg
  obtain ⟨b', off, e, hb, hc⟩ := ints_two w a b h
  exact ⟨b', off, e, hb, hc⟩
theorem widen_alive (W : World) (g : Nat) (hI : Ints W (some ⟨g, 0, none⟩) 2 (two 4 8)) :
    Calls Tryd.prog 22 #[.agg #[.int .i64 0, .int .i64 3], .agg #[.int .i64 0, .int .i64 5], .slice (some ⟨g, 0, none⟩) 2 2] W (RetSpan 0 8 W) := by
  have h := widen_any (two 4 8) 0 3 0 5 (some ⟨g, 0, none⟩) 2 2 _ (by omega) hI
  have e1 : widL (two 4 8) 2 0 3 0 5 = 0 := by decide +kernel
  have e2 : widH (two 4 8) 2 0 3 0 5 = 8 := by decide +kernel
  rw [e1, e2] at h
  exact h
theorem text_alive (w : World) : Calls Tryd.prog 23 #[.agg #[.int .i64 1, .int .i64 0]] w (RetStr ⟨#[110, 111, 110, 101]⟩ w) := stext_none 1 0 w (by decide +kernel)
theorem right_alive (w : World) : Calls Tryd.prog 8 #[.agg #[.int .i64 (-1152921504606846976), .int .i64 1152921504606846976]] w (RetBool true w) := by
  have h := right_any (-1152921504606846976) 1152921504606846976 w
  rw [show rightS (-1152921504606846976) 1152921504606846976 = true by decide +kernel] at h
  exact h
theorem has_alive (w : World) : Calls Tryd.prog 15 #[.agg #[.int .i64 (-7), .int .i64 7], .int .i64 0] w (RetBool true w) := by
  have h := has_any (-7) 7 0 w
  rw [show hasS (-7) 7 0 = true by decide +kernel] at h
  exact h
theorem hull_alive (w W : World) (g : Nat) (hW : W = w.alloc (.cells #[.int .i64 3, .int .i64 1] 3)) (hg : g = w.heap.size) : Calls Tryd.prog 17 #[.slice (some ⟨g, 0, none⟩) 2 2] W (RetSpan 1 3 W) := by
  subst hW hg
  obtain ⟨b, off, e, hb, hc⟩ := ints_two w 3 1 (by omega)
  cases e
  have h := hull_any (two 3 1) w.heap.size 0 2 2 _ (by omega) (by omega) (fun _ => hb) hc
  rw [show hullL (two 3 1) 2 = 1 by decide +kernel, show hullH (two 3 1) 2 = 3 by decide +kernel] at h
  exact h
theorem narrow_alive (w : World) : Calls Tryd.prog 25 #[.agg #[.int .i64 (-1152921504606846976), .int .i64 1152921504606846976], .agg #[.int .i64 (-7), .int .i64 7]] w (RetSpan (-7) 7 w) := by
  have h := narrow_any (-1152921504606846976) 1152921504606846976 (-7) 7 w
  rw [show narL (-1152921504606846976) 1152921504606846976 (-7) 7 = -7 by decide +kernel, show narH (-1152921504606846976) 1152921504606846976 (-7) 7 = 7 by decide +kernel] at h
  exact h

set_option maxRecDepth 100000 in
set_option maxHeartbeats 3200000 in
theorem alive_any (w : World) : Calls Tryd.prog 7 #[] w (RetTrue w) := by
  have k1 : sameB (-7) 7 (-7) 7 = true := by decide
  have k2 : sameB 0 8 0 8 = true := by decide
  have k3 : sameB 1 3 1 3 = true := by decide
  go_enter Tryd.func7, Tryd.ntmps7
  go_wp2_with (first | (go_at_call 5; ((with_reducible refine (calc_alive _).mono ?_); rintro e w1 ⟨rfl, hb1⟩)))
  have HB1 := Lib.hid hb1
  clear hb1
  go_region_held3 (fun w' => w1.heap.size < w'.heap.size ∧ w'.cell? ⟨w1.heap.size, 0, none⟩ = some (.int .i64 (-7)) ∧ w'.cell? ⟨w1.heap.size, 1, none⟩ = some (.int .i64 7)) (first | (exact keep_one hb2 (by assumption)) | (exact keep_fresh _ (by assumption)) | go_keep)
    (first
      | (go_at_call 22; ((with_reducible refine (widen_alive _ _ (ints_two_drew _ 4 8 _ (by simp))).mono ?_); rintro e w2 ⟨rfl, hb2⟩))
      | (go_at_call 9; ((with_reducible refine (empty_any _).mono ?_); rintro e w2 ⟨rfl, hb2⟩))
      | (go_at_call 23; ((with_reducible refine (text_alive _).mono ?_); rintro e w2 ⟨rfl, hb2⟩))
      | (go_at_call 24; ((with_reducible refine (full_any _).mono ?_); rintro e w2 ⟨rfl, hb2⟩))
      | (go_at_call 8; ((with_reducible refine (right_alive _).mono ?_); rintro e w2 ⟨rfl, hb2⟩))
      | (go_at_call 15; ((with_reducible refine (has_alive _).mono ?_); rintro e w2 ⟨rfl, hb2⟩))
      | (go_at_call 17; ((with_reducible refine (hull_alive _ _ _ rfl rfl).mono ?_); rintro e w2 ⟨rfl, hb2⟩))
      | (go_at_call 25; ((with_reducible refine (narrow_alive _).mono ?_); rintro e w2 ⟨rfl, hb2⟩)))
  have HB2 := Lib.hid (show Below w.heap.size w w2 from below_trans HB1.out (below_trans (show Below w1.heap.size w1 _ from (((Below.refl _ _).alloc (Nat.le_refl _) _).alloc (by simp) _).drew) (below_trans (by assumption) (below_trans (by assumption) (below_trans (by assumption) (below_trans (by assumption) (below_trans (by assumption) (below_trans (by assumption) (below_trans (boxed _ _) (below_trans (by assumption) (below_trans (by assumption) (by assumption))))))))))))
  go_wp2_with fail
  go_ret
  exact ⟨rfl, HB2.out⟩
end Go.Proofs.YtkgdonoilpkiiaaDoor
