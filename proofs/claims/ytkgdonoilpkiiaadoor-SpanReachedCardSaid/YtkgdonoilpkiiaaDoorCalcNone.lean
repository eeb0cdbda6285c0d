/- Calc of spans, where nothing is reckoned: one of both is empty, or op is none. -/
import Derived.Test.YtkgdonoilpkiiaaDoorCalcLo
namespace Go.Proofs.YtkgdonoilpkiiaaDoor
open Go.RowKit
attribute [local go_sem ↓] Go.wp_at_zero Go.wp_at_succ eq24 eq23 neq24 eqg24 eqg23

set_option maxRecDepth 100000 in
set_option maxHeartbeats 3200000 in
theorem scalc_none_a (op a b c d : Int) (w : World) (h1 : sameB (tkL a b) (tkH a b) 1 0 = true) :
    Calls Tryd.prog 5 #[.int .i64 op, .agg #[.int .i64 a, .int .i64 b], .agg #[.int .i64 c, .int .i64 d]] w (RetCalc 1 0 false w) := by
  go_enter Tryd.func5, Tryd.ntmps5
  go_upto_region 1 with fail
  go_cut [] (fun wx => Boxes w wx (tkL a b) (tkH a b) (tkL c d) (tkH c d) 0 0)
  case first =>
    go_region_with (first | (go_at_call 12; ((with_reducible refine (taken_any _ _ _).mono ?_); rintro e w1 ⟨rfl, hb1⟩); obtain ⟨hc, hf⟩ := bcell hb1; obtain ⟨z0, z1, z2⟩ := three_sz (n := w.heap.size) hb1 (by first | omega | (simp; omega) | (simp; done))))
    all_goals go_wp2_with fail
    all_goals go_meet
    all_goals exact boxes_taken (by assumption) (by assumption) _ _ _ _
  case rest =>
    have HX := Lib.hid hcut
    obtain ⟨⟨z0, p0, p1, f0, f1⟩, ⟨z1, q0, q1, g0, g1⟩, ⟨z2, r0, r1, e0, e1⟩, -⟩ := hcut
    go_wp2_with fail
    first | go_region_with (first | (go_at_call 9; ((with_reducible refine (empty_any _).mono ?_); rintro e w1 ⟨rfl, hb1⟩); obtain ⟨s0, s1, s2, s3, s4⟩ := keep_two (n := w.heap.size) hb1 (by first | exact ⟨z1, p0, p1, q0, q1⟩ | exact ⟨s0, s1, s2, s3, s4⟩))) | fail
    all_goals
      have HX1 : Hid (Boxes w w1 (tkL a b) (tkH a b) (tkL c d) (tkH c d) 0 0) := Lib.hid (HX.out.drew.below hb1)
      clear z0 p0 p1 f0 f1 z1 q0 q1 g0 g1 z2 r0 r1 e0 e1
      obtain ⟨⟨z0, p0, p1, f0, f1⟩, ⟨z1, q0, q1, g0, g1⟩, ⟨z2, r0, r1, e0, e1⟩, -⟩ := HX1.out
      go_wp2_with (first | (go_at_call 9; ((with_reducible refine (empty_any _).mono ?_); rintro e w2 ⟨rfl, hb2⟩); obtain ⟨-, -, ⟨-, y0, y1, y2, y3⟩, -⟩ := HX1.out.below hb2))
      refine bodyPost_ret (v := .tuple #[.agg #[.int .i64 1, .int .i64 0], .bool false]) (by simp [results, Tryd.results5, go_sem, y0, y1]) rfl ⟨rfl, ?_⟩
      exact (HX1.out.below hb2).out _ _

set_option maxRecDepth 100000 in
set_option maxHeartbeats 3200000 in
theorem scalc_none_c (op a b c d : Int) (w : World) (h1 : sameB (tkL a b) (tkH a b) 1 0 = false) (h2 : sameB (tkL c d) (tkH c d) 1 0 = true) :
    Calls Tryd.prog 5 #[.int .i64 op, .agg #[.int .i64 a, .int .i64 b], .agg #[.int .i64 c, .int .i64 d]] w (RetCalc 1 0 false w) := by
  go_enter Tryd.func5, Tryd.ntmps5
  go_upto_region 1 with fail
  go_cut [] (fun wx => Boxes w wx (tkL a b) (tkH a b) (tkL c d) (tkH c d) 0 0)
  case first =>
    go_region_with (first | (go_at_call 12; ((with_reducible refine (taken_any _ _ _).mono ?_); rintro e w1 ⟨rfl, hb1⟩); obtain ⟨hc, hf⟩ := bcell hb1; obtain ⟨z0, z1, z2⟩ := three_sz (n := w.heap.size) hb1 (by first | omega | (simp; omega) | (simp; done))))
    all_goals go_wp2_with fail
    all_goals go_meet
    all_goals exact boxes_taken (by assumption) (by assumption) _ _ _ _
  case rest =>
    have HX := Lib.hid hcut
    obtain ⟨⟨z0, p0, p1, f0, f1⟩, ⟨z1, q0, q1, g0, g1⟩, ⟨z2, r0, r1, e0, e1⟩, -⟩ := hcut
    go_wp2_with fail
    first | go_region_with (first | (go_at_call 9; ((with_reducible refine (empty_any _).mono ?_); rintro e w1 ⟨rfl, hb1⟩); obtain ⟨s0, s1, s2, s3, s4⟩ := keep_two (n := w.heap.size) hb1 (by first | exact ⟨z1, p0, p1, q0, q1⟩ | exact ⟨s0, s1, s2, s3, s4⟩))) | fail
    all_goals
      have HX1 : Hid (Boxes w w1 (tkL a b) (tkH a b) (tkL c d) (tkH c d) 0 0) := Lib.hid ((HX.out.drew.below (by assumption)).below hb1)
      clear z0 p0 p1 f0 f1 z1 q0 q1 g0 g1 z2 r0 r1 e0 e1
      obtain ⟨⟨z0, p0, p1, f0, f1⟩, ⟨z1, q0, q1, g0, g1⟩, ⟨z2, r0, r1, e0, e1⟩, -⟩ := HX1.out
      go_wp2_with (first | (go_at_call 9; ((with_reducible refine (empty_any _).mono ?_); rintro e w2 ⟨rfl, hb2⟩); obtain ⟨-, -, ⟨-, y0, y1, y2, y3⟩, -⟩ := HX1.out.below hb2))
      refine bodyPost_ret (v := .tuple #[.agg #[.int .i64 1, .int .i64 0], .bool false]) (by simp [results, Tryd.results5, go_sem, y0, y1]) rfl ⟨rfl, ?_⟩
      exact (HX1.out.below hb2).out _ _

set_option maxRecDepth 100000 in
set_option maxHeartbeats 3200000 in
theorem scalc_none_hi (op a b c d : Int) (w : World) (h1 : sameB (tkL a b) (tkH a b) 1 0 = false) (h2 : sameB (tkL c d) (tkH c d) 1 0 = false) (h3 : decide (op < 0) = false) (h4 : 3 < op) :
    Calls Tryd.prog 5 #[.int .i64 op, .agg #[.int .i64 a, .int .i64 b], .agg #[.int .i64 c, .int .i64 d]] w (RetCalc 1 0 false w) := by
  go_enter Tryd.func5, Tryd.ntmps5
  go_upto_region 1 with fail
  go_cut [] (fun wx => Boxes w wx (tkL a b) (tkH a b) (tkL c d) (tkH c d) 0 0)
  case first =>
    go_region_with (first | (go_at_call 12; ((with_reducible refine (taken_any _ _ _).mono ?_); rintro e w1 ⟨rfl, hb1⟩); obtain ⟨hc, hf⟩ := bcell hb1; obtain ⟨z0, z1, z2⟩ := three_sz (n := w.heap.size) hb1 (by first | omega | (simp; omega) | (simp; done))))
    all_goals go_wp2_with fail
    all_goals go_meet
    all_goals exact boxes_taken (by assumption) (by assumption) _ _ _ _
  case rest =>
    have HX := Lib.hid hcut
    obtain ⟨⟨z0, p0, p1, f0, f1⟩, ⟨z1, q0, q1, g0, g1⟩, ⟨z2, r0, r1, e0, e1⟩, -⟩ := hcut
    go_wp2_with fail
    go_region_held3 (fun w' => w.heap.size + 1 < w'.heap.size ∧ w'.cell? ⟨w.heap.size, 0, none⟩ = some (.int .i64 (tkL a b)) ∧ w'.cell? ⟨w.heap.size, 1, none⟩ = some (.int .i64 (tkH a b)) ∧ w'.cell? ⟨w.heap.size + 1, 0, none⟩ = some (.int .i64 (tkL c d)) ∧ w'.cell? ⟨w.heap.size + 1, 1, none⟩ = some (.int .i64 (tkH c d))) (first | (exact keep_two hb1 (by assumption)) | go_keep) (first | (go_at_call 9; ((with_reducible refine (empty_any _).mono ?_); rintro e w1 ⟨rfl, hb1⟩)))
    all_goals
      have HX1 : Hid (Boxes w w1 (tkL a b) (tkH a b) (tkL c d) (tkH c d) 0 0) := Lib.hid ((HX.out.drew.below (by assumption)).below hb1)
      clear z0 p0 p1 f0 f1 z1 q0 q1 g0 g1 z2 r0 r1 e0 e1
      obtain ⟨⟨z0, p0, p1, f0, f1⟩, ⟨z1, q0, q1, g0, g1⟩, ⟨z2, r0, r1, e0, e1⟩, -⟩ := HX1.out
      go_wp2_with (first | (go_at_call 9; ((with_reducible refine (empty_any _).mono ?_); rintro e w2 ⟨rfl, hb2⟩); obtain ⟨-, -, ⟨-, y0, y1, y2, y3⟩, -⟩ := HX1.out.below hb2))
      refine bodyPost_ret (v := .tuple #[.agg #[.int .i64 1, .int .i64 0], .bool false]) (by simp [results, Tryd.results5, go_sem, y0, y1]) rfl ⟨rfl, ?_⟩
      exact (HX1.out.below hb2).out _ _

/-- What Calc tells of any op and any two spans. -/
def calcNo (op a b c d : Int) : Bool := noneS a b || (noneS c d || (decide (op < 0) || decide (3 < op)))
def calcL (op a b c d : Int) : Int := if calcNo op a b c d = true then 1 else hullL (endsF op a b c d) (endsL op a b c d).length
def calcH (op a b c d : Int) : Int := if calcNo op a b c d = true then 0 else hullH (endsF op a b c d) (endsL op a b c d).length
def calcW (op a b c d : Int) : Bool := if calcNo op a b c d = true then false else wrB (endsF op a b c d) (wrong0 op c d) (endsL op a b c d).length
theorem scalc_any (op a b c d : Int) (w : World) : Calls Tryd.prog 5 #[.int .i64 op, .agg #[.int .i64 a, .int .i64 b], .agg #[.int .i64 c, .int .i64 d]] w (RetCalc (calcL op a b c d) (calcH op a b c d) (calcW op a b c d) w) := by
  unfold calcL calcH calcW
  cases h1 : noneS a b
  · cases h2 : noneS c d
    · by_cases h3 : op < 0
      · have e : calcNo op a b c d = true := by unfold calcNo; simp [h3]
        rw [if_pos e, if_pos e, if_pos e]
        exact scalc_none_lo op a b c d w h1 h2 h3
      · by_cases h4 : 3 < op
        · have e : calcNo op a b c d = true := by unfold calcNo; simp [h4]
          rw [if_pos e, if_pos e, if_pos e]
          exact scalc_none_hi op a b c d w h1 h2 (decide_eq_false h3) h4
        · have e : ¬ calcNo op a b c d = true := by unfold calcNo; simp [h1, h2, h3, h4]
          rw [if_neg e, if_neg e, if_neg e]
          exact scalc_some_any op a b c d w (by omega) (by omega) h1 h2
    · have e : calcNo op a b c d = true := by unfold calcNo; simp [h2]
      rw [if_pos e, if_pos e, if_pos e]
      exact scalc_none_c op a b c d w h1 h2
  · have e : calcNo op a b c d = true := by unfold calcNo; simp [h1]
    rw [if_pos e, if_pos e, if_pos e]
    exact scalc_none_a op a b c d w h1
end Go.Proofs.YtkgdonoilpkiiaaDoor
