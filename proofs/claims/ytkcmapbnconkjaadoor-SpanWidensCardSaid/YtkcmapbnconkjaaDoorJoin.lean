/- The contract of Join. -/
import Derived.Test.YtkcmapbnconkjaaDoorHull
namespace Go.Proofs.YtkcmapbnconkjaaDoor
open Go.RowKit
attribute [local go_sem ↓] Go.wp_at_zero Go.wp_at_succ eq24 eq23 neq24 eqg24 eqg23

theorem Boxes.drew {w wx : World} {a b c d x y : Int} (h : Boxes w wx a b c d x y) : Boxes w wx.drew a b c d x y := ⟨h.1, h.2.1, h.2.2.1, h.2.2.2.drew⟩
theorem Boxes.out {w wx : World} {a b c d x y : Int} (h : Boxes w wx a b c d x y) (x' y' : Int) : Below w.heap.size w ((wx.setCell ⟨w.heap.size + 1 + 1, 0, none⟩ (.int .i64 x')).setCell ⟨w.heap.size + 1 + 1, 1, none⟩ (.int .i64 y')) :=
  (h.2.2.2.setCell (by simp; omega) _).setCell (by simp; omega) _

theorem hull_join {a b c d : Int} (h1 : noneS a b = false) (h2 : noneS c d = false) : hullL (four (tkL a b) (tkH a b) (tkL c d) (tkH c d)) 4 = joinL a b c d ∧ hullH (four (tkL a b) (tkH a b) (tkL c d) (tkH c d)) 4 = joinH a b c d := by
  have e1 := noneS_no h1
  have e2 := noneS_no h2
  unfold hullL hullH joinL joinH
  simp only [h1, h2, Bool.false_eq_true, if_false, mnF, mxF, four]
  rcases of_cases (min (min (min (tkL a b) (tkH a b)) (tkL c d)) (tkH c d)) (max (max (max (tkL a b) (tkH a b)) (tkL c d)) (tkH c d)) with h | h <;> omega

set_option maxHeartbeats 1600000 in
theorem join_none (a b c d : Int) (w : World) (hn : sameB (tkL a b) (tkH a b) 1 0 = true) : Calls Tryd.prog 7 #[.agg #[.int .i64 a, .int .i64 b], .agg #[.int .i64 c, .int .i64 d]] w (RetSpan (tkL c d) (tkH c d) w) := by
  go_enter Tryd.func7, Tryd.ntmps7
  go_upto_region 1 with fail
  go_cut [] (fun wx => Boxes w wx (tkL a b) (tkH a b) (tkL c d) (tkH c d) 0 0)
  case first =>
    go_region_with (first | (go_at_call 22; ((with_reducible refine (taken_any _ _ _).mono ?_); rintro e w1 ⟨rfl, hb1⟩); obtain ⟨hc, hf⟩ := bcell hb1; obtain ⟨z0, z1, z2⟩ := three_sz (n := w.heap.size) hb1 (by first | omega | (simp; omega) | (simp; done))))
    all_goals go_wp2_with fail
    all_goals go_meet
    all_goals exact boxes_taken (by assumption) (by assumption) _ _ _ _
  case rest =>
    have HX := Lib.hid hcut
    obtain ⟨⟨z0, p0, p1, f0, f1⟩, ⟨z1, q0, q1, g0, g1⟩, ⟨z2, r0, r1, e0, e1⟩, -⟩ := hcut
    go_wp2_with fail
    go_region_held3 (fun w' => w.heap.size + 1 < w'.heap.size ∧ w'.cell? ⟨w.heap.size, 0, none⟩ = some (.int .i64 (tkL a b)) ∧ w'.cell? ⟨w.heap.size, 1, none⟩ = some (.int .i64 (tkH a b)) ∧ w'.cell? ⟨w.heap.size + 1, 0, none⟩ = some (.int .i64 (tkL c d)) ∧ w'.cell? ⟨w.heap.size + 1, 1, none⟩ = some (.int .i64 (tkH c d))) (first | (exact keep_two hb1 (by assumption)) | go_keep)
      (first | (go_at_call 15; ((with_reducible refine (empty_any _).mono ?_); rintro e w1 ⟨rfl, hb1⟩)))
    have HX1 := Lib.hid (HX.out.drew.below hb1)
    clear z0 p0 p1 f0 f1 z1 q0 q1 g0 g1 z2 r0 r1 e0 e1
    obtain ⟨⟨z0, p0, p1, f0, f1⟩, ⟨z1, q0, q1, g0, g1⟩, ⟨z2, r0, r1, e0, e1⟩, -⟩ := HX1.out
    go_wp2_with fail
    refine bodyPost_ret (v := .agg #[.int .i64 (tkL c d), .int .i64 (tkH c d)]) (by simp [results, Tryd.results7, go_sem, r0, r1]) rfl ⟨rfl, ?_⟩
    exact HX1.out.out _ _

set_option maxHeartbeats 1600000 in
theorem join_left (a b c d : Int) (w : World) (hn : sameB (tkL a b) (tkH a b) 1 0 = false) (hm : sameB (tkL c d) (tkH c d) 1 0 = true) : Calls Tryd.prog 7 #[.agg #[.int .i64 a, .int .i64 b], .agg #[.int .i64 c, .int .i64 d]] w (RetSpan (tkL a b) (tkH a b) w) := by
  go_enter Tryd.func7, Tryd.ntmps7
  go_upto_region 1 with fail
  go_cut [] (fun wx => Boxes w wx (tkL a b) (tkH a b) (tkL c d) (tkH c d) 0 0)
  case first =>
    go_region_with (first | (go_at_call 22; ((with_reducible refine (taken_any _ _ _).mono ?_); rintro e w1 ⟨rfl, hb1⟩); obtain ⟨hc, hf⟩ := bcell hb1; obtain ⟨z0, z1, z2⟩ := three_sz (n := w.heap.size) hb1 (by first | omega | (simp; omega) | (simp; done))))
    all_goals go_wp2_with fail
    all_goals go_meet
    all_goals exact boxes_taken (by assumption) (by assumption) _ _ _ _
  case rest =>
    have HX := Lib.hid hcut
    obtain ⟨⟨z0, p0, p1, f0, f1⟩, ⟨z1, q0, q1, g0, g1⟩, ⟨z2, r0, r1, e0, e1⟩, -⟩ := hcut
    go_wp2_with fail
    go_region_held3 (fun w' => w.heap.size + 1 < w'.heap.size ∧ w'.cell? ⟨w.heap.size, 0, none⟩ = some (.int .i64 (tkL a b)) ∧ w'.cell? ⟨w.heap.size, 1, none⟩ = some (.int .i64 (tkH a b)) ∧ w'.cell? ⟨w.heap.size + 1, 0, none⟩ = some (.int .i64 (tkL c d)) ∧ w'.cell? ⟨w.heap.size + 1, 1, none⟩ = some (.int .i64 (tkH c d))) (first | (exact keep_two hb1 (by assumption)) | go_keep)
      (first | (go_at_call 15; ((with_reducible refine (empty_any _).mono ?_); rintro e w1 ⟨rfl, hb1⟩)))
    have HX1 := Lib.hid (HX.out.drew.below hb1)
    clear z0 p0 p1 f0 f1 z1 q0 q1 g0 g1 z2 r0 r1 e0 e1
    obtain ⟨⟨z0, p0, p1, f0, f1⟩, ⟨z1, q0, q1, g0, g1⟩, ⟨z2, r0, r1, e0, e1⟩, -⟩ := HX1.out
    go_wp2_with fail
    go_region_held3 (fun w' => w.heap.size + 1 < w'.heap.size ∧ w'.cell? ⟨w.heap.size, 0, none⟩ = some (.int .i64 (tkL a b)) ∧ w'.cell? ⟨w.heap.size, 1, none⟩ = some (.int .i64 (tkH a b)) ∧ w'.cell? ⟨w.heap.size + 1, 0, none⟩ = some (.int .i64 (tkL c d)) ∧ w'.cell? ⟨w.heap.size + 1, 1, none⟩ = some (.int .i64 (tkH c d))) (first | (exact keep_two hb2 (by assumption)) | go_keep)
      (first | (go_at_call 15; ((with_reducible refine (empty_any _).mono ?_); rintro e w2 ⟨rfl, hb2⟩)))
    have HX2 := Lib.hid (HX1.out.drew.below hb2)
    clear z0 p0 p1 f0 f1 z1 q0 q1 g0 g1 z2 r0 r1 e0 e1
    obtain ⟨⟨z0, p0, p1, f0, f1⟩, ⟨z1, q0, q1, g0, g1⟩, ⟨z2, r0, r1, e0, e1⟩, -⟩ := HX2.out
    go_wp2_with fail
    refine bodyPost_ret (v := .agg #[.int .i64 (tkL a b), .int .i64 (tkH a b)]) (by simp [results, Tryd.results7, go_sem, r0, r1]) rfl ⟨rfl, ?_⟩
    exact HX2.out.out _ _

set_option maxHeartbeats 1600000 in
theorem join_both (a b c d : Int) (w : World) (hn : sameB (tkL a b) (tkH a b) 1 0 = false) (hm : sameB (tkL c d) (tkH c d) 1 0 = false) : Calls Tryd.prog 7 #[.agg #[.int .i64 a, .int .i64 b], .agg #[.int .i64 c, .int .i64 d]] w (RetSpan (hullL (four (tkL a b) (tkH a b) (tkL c d) (tkH c d)) 4) (hullH (four (tkL a b) (tkH a b) (tkL c d) (tkH c d)) 4) w) := by
  go_enter Tryd.func7, Tryd.ntmps7
  go_upto_region 1 with fail
  go_cut [] (fun wx => Boxes w wx (tkL a b) (tkH a b) (tkL c d) (tkH c d) 0 0)
  case first =>
    go_region_with (first | (go_at_call 22; ((with_reducible refine (taken_any _ _ _).mono ?_); rintro e w1 ⟨rfl, hb1⟩); obtain ⟨hc, hf⟩ := bcell hb1; obtain ⟨z0, z1, z2⟩ := three_sz (n := w.heap.size) hb1 (by first | omega | (simp; omega) | (simp; done))))
    all_goals go_wp2_with fail
    all_goals go_meet
    all_goals exact boxes_taken (by assumption) (by assumption) _ _ _ _
  case rest =>
    have HX := Lib.hid hcut
    obtain ⟨⟨z0, p0, p1, f0, f1⟩, ⟨z1, q0, q1, g0, g1⟩, ⟨z2, r0, r1, e0, e1⟩, -⟩ := hcut
    go_wp2_with fail
    go_region_held3 (fun w' => w.heap.size + 1 < w'.heap.size ∧ w'.cell? ⟨w.heap.size, 0, none⟩ = some (.int .i64 (tkL a b)) ∧ w'.cell? ⟨w.heap.size, 1, none⟩ = some (.int .i64 (tkH a b)) ∧ w'.cell? ⟨w.heap.size + 1, 0, none⟩ = some (.int .i64 (tkL c d)) ∧ w'.cell? ⟨w.heap.size + 1, 1, none⟩ = some (.int .i64 (tkH c d))) (first | (exact keep_two hb1 (by assumption)) | go_keep)
      (first | (go_at_call 15; ((with_reducible refine (empty_any _).mono ?_); rintro e w1 ⟨rfl, hb1⟩)))
    have HX1 := Lib.hid (HX.out.drew.below hb1)
    clear z0 p0 p1 f0 f1 z1 q0 q1 g0 g1 z2 r0 r1 e0 e1
    obtain ⟨⟨z0, p0, p1, f0, f1⟩, ⟨z1, q0, q1, g0, g1⟩, ⟨z2, r0, r1, e0, e1⟩, -⟩ := HX1.out
    go_wp2_with fail
    go_region_held3 (fun w' => w.heap.size + 1 < w'.heap.size ∧ w'.cell? ⟨w.heap.size, 0, none⟩ = some (.int .i64 (tkL a b)) ∧ w'.cell? ⟨w.heap.size, 1, none⟩ = some (.int .i64 (tkH a b)) ∧ w'.cell? ⟨w.heap.size + 1, 0, none⟩ = some (.int .i64 (tkL c d)) ∧ w'.cell? ⟨w.heap.size + 1, 1, none⟩ = some (.int .i64 (tkH c d))) (first | (exact keep_two hb2 (by assumption)) | go_keep)
      (first | (go_at_call 15; ((with_reducible refine (empty_any _).mono ?_); rintro e w2 ⟨rfl, hb2⟩)))
    have HX2 := Lib.hid (HX1.out.drew.below hb2)
    clear z0 p0 p1 f0 f1 z1 q0 q1 g0 g1 z2 r0 r1 e0 e1
    obtain ⟨⟨z0, p0, p1, f0, f1⟩, ⟨z1, q0, q1, g0, g1⟩, ⟨z2, r0, r1, e0, e1⟩, -⟩ := HX2.out
    go_wp2_with (first | (go_at_call 23; ((with_reducible refine (hull_four _ _ _ _ _ _ w2 _ rfl rfl).mono ?_); rintro e w3 ⟨rfl, hb3⟩); obtain ⟨hc, hf⟩ := bcell hb3))
    have HX3 := (HX2.out.below ((Below.refl _ _).alloc (Nat.le_refl _) _)).below hb3
    refine bodyPost_ret (v := .agg #[.int .i64 (hullL (four (tkL a b) (tkH a b) (tkL c d) (tkH c d)) 4), .int .i64 (hullH (four (tkL a b) (tkH a b) (tkL c d) (tkH c d)) 4)]) (by simp [results, Tryd.results7, go_sem, HX3.2.2.1.2.1, HX3.2.2.1.2.2.1]) rfl ⟨rfl, ?_⟩
    exact HX3.out _ _

theorem join_any (a b c d : Int) (w : World) : Calls Tryd.prog 7 #[.agg #[.int .i64 a, .int .i64 b], .agg #[.int .i64 c, .int .i64 d]] w (RetSpan (joinL a b c d) (joinH a b c d) w) := by
  cases hn : noneS a b
  · cases hm : noneS c d
    · obtain ⟨e1, e2⟩ := hull_join hn hm
      rw [← e1, ← e2]
      exact join_both a b c d w hn hm
    · have e : joinL a b c d = tkL a b ∧ joinH a b c d = tkH a b := by unfold joinL joinH; simp [hn, hm]
      rw [e.1, e.2]
      exact join_left a b c d w hn hm
  · have e : joinL a b c d = tkL c d ∧ joinH a b c d = tkH c d := by unfold joinL joinH; simp [hn]
    rw [e.1, e.2]
    exact join_none a b c d w hn
end Go.Proofs.YtkcmapbnconkjaaDoor
