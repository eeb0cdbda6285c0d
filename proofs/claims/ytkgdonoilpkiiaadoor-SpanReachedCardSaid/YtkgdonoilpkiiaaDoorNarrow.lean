/- The contract of Narrow. -/
import Derived.Test.YtkgdonoilpkiiaaDoorJoin
import Derived.Test.YtkgdonoilpkiiaaDoorWidenNums
namespace Go.Proofs.YtkgdonoilpkiiaaDoor
open Go.RowKit
attribute [local go_sem ↓] Go.wp_at_zero Go.wp_at_succ eq24 eq23 neq24 eqg24 eqg23

theorem Boxes.drewN {w wx : World} {a b c d x y : Int} (h : Boxes w wx a b c d x y) (n : Nat) : Boxes w (wx.drewN n) a b c d x y := ⟨h.1, h.2.1, h.2.2.1, below_drewN h.2.2.2 n⟩

set_option maxHeartbeats 1600000 in
theorem narrow_none (a b c d : Int) (w : World) (hn : sameB (tkL a b) (tkH a b) 1 0 = true) : Calls Tryd.prog 25 #[.agg #[.int .i64 a, .int .i64 b], .agg #[.int .i64 c, .int .i64 d]] w (RetSpan 1 0 w) := by
  go_enter Tryd.func25, Tryd.ntmps25
  go_upto_region 1 with fail
  go_cut [] (fun wx => Boxes w wx (tkL a b) (tkH a b) (tkL c d) (tkH c d) 0 0)
  case first =>
    go_region_with (first | (go_at_call 12; ((with_reducible refine (taken_any _ _ _).mono ?_); rintro e w1 ⟨rfl, hb1⟩); obtain ⟨hc, hf⟩ := bcell hb1; obtain ⟨z0, z1, z2⟩ := three_sz (n := w.heap.size) hb1 (by first | omega | (simp; omega) | (simp; done))))
    all_goals go_wp2_with fail
    all_goals go_meet
    all_goals exact boxes_taken (by assumption) (by assumption) _ _ _ _
  case rest =>
    have HX := Lib.hid hcut
    obtain ⟨⟨z0, p0, p1, f0, f1⟩, ⟨z1, q0, q1, g0, g1⟩, ⟨z2, r0, r1, e0, e1⟩, -⟩ := hcut
    go_wp2_with fail
    go_region_with (first | (go_at_call 9; ((with_reducible refine (empty_any _).mono ?_); rintro e w1 ⟨rfl, hb1⟩); obtain ⟨s0, s1, s2, s3, s4⟩ := keep_two (n := w.heap.size) hb1 ⟨z1, p0, p1, q0, q1⟩))
    all_goals
      have HX1 := Lib.hid (HX.out.drew.below (by assumption))
      clear z0 p0 p1 f0 f1 z1 q0 q1 g0 g1 z2 r0 r1 e0 e1
      obtain ⟨⟨z0, p0, p1, f0, f1⟩, ⟨z1, q0, q1, g0, g1⟩, ⟨z2, r0, r1, e0, e1⟩, -⟩ := HX1.out
      go_wp2_with (first | (go_at_call 9; ((with_reducible refine (empty_any _).mono ?_); rintro e w2 ⟨rfl, hb2⟩); obtain ⟨hc, hf⟩ := bcell hb2))
      have HX2 := Lib.hid (HX1.out.below hb2)
      refine bodyPost_ret (v := .agg #[.int .i64 1, .int .i64 0]) (by simp [results, Tryd.results25, go_sem, HX2.out.2.2.1.2.1, HX2.out.2.2.1.2.2.1]) rfl ⟨rfl, ?_⟩
      exact HX2.out.out _ _

set_option maxHeartbeats 1600000 in
theorem narrow_right (a b c d : Int) (w : World) (hn : sameB (tkL a b) (tkH a b) 1 0 = false) (hm : sameB (tkL c d) (tkH c d) 1 0 = true) : Calls Tryd.prog 25 #[.agg #[.int .i64 a, .int .i64 b], .agg #[.int .i64 c, .int .i64 d]] w (RetSpan 1 0 w) := by
  go_enter Tryd.func25, Tryd.ntmps25
  go_upto_region 1 with fail
  go_cut [] (fun wx => Boxes w wx (tkL a b) (tkH a b) (tkL c d) (tkH c d) 0 0)
  case first =>
    go_region_with (first | (go_at_call 12; ((with_reducible refine (taken_any _ _ _).mono ?_); rintro e w1 ⟨rfl, hb1⟩); obtain ⟨hc, hf⟩ := bcell hb1; obtain ⟨z0, z1, z2⟩ := three_sz (n := w.heap.size) hb1 (by first | omega | (simp; omega) | (simp; done))))
    all_goals go_wp2_with fail
    all_goals go_meet
    all_goals exact boxes_taken (by assumption) (by assumption) _ _ _ _
  case rest =>
    have HX := Lib.hid hcut
    obtain ⟨⟨z0, p0, p1, f0, f1⟩, ⟨z1, q0, q1, g0, g1⟩, ⟨z2, r0, r1, e0, e1⟩, -⟩ := hcut
    go_wp2_with fail
    go_region_held3 (fun w' => w.heap.size + 1 < w'.heap.size ∧ w'.cell? ⟨w.heap.size, 0, none⟩ = some (.int .i64 (tkL a b)) ∧ w'.cell? ⟨w.heap.size, 1, none⟩ = some (.int .i64 (tkH a b)) ∧ w'.cell? ⟨w.heap.size + 1, 0, none⟩ = some (.int .i64 (tkL c d)) ∧ w'.cell? ⟨w.heap.size + 1, 1, none⟩ = some (.int .i64 (tkH c d))) (first | (exact keep_two hb1 (by assumption)) | go_keep)
      (first | (go_at_call 9; ((with_reducible refine (empty_any _).mono ?_); rintro e w1 ⟨rfl, hb1⟩)))
    have HX1 := Lib.hid ((HX.out.drew.below (by assumption)).below hb1)
    clear z0 p0 p1 f0 f1 z1 q0 q1 g0 g1 z2 r0 r1 e0 e1
    obtain ⟨⟨z0, p0, p1, f0, f1⟩, ⟨z1, q0, q1, g0, g1⟩, ⟨z2, r0, r1, e0, e1⟩, -⟩ := HX1.out
    go_wp2_with (first | (go_at_call 9; ((with_reducible refine (empty_any _).mono ?_); rintro e w2 ⟨rfl, hb2⟩); obtain ⟨hc, hf⟩ := bcell hb2))
    have HX2 := Lib.hid (HX1.out.below hb2)
    refine bodyPost_ret (v := .agg #[.int .i64 1, .int .i64 0]) (by simp [results, Tryd.results25, go_sem, HX2.out.2.2.1.2.1, HX2.out.2.2.1.2.2.1]) rfl ⟨rfl, ?_⟩
    exact HX2.out.out _ _

set_option maxHeartbeats 1600000 in
theorem narrow_both (a b c d : Int) (w : World) (hn : sameB (tkL a b) (tkH a b) 1 0 = false) (hm : sameB (tkL c d) (tkH c d) 1 0 = false) : Calls Tryd.prog 25 #[.agg #[.int .i64 a, .int .i64 b], .agg #[.int .i64 c, .int .i64 d]] w (RetSpan (ofL (nloZ a b c d) (nhiZ a b c d)) (ofH (nloZ a b c d) (nhiZ a b c d)) w) := by
  have hlo : ((tkL a b == -1152921504606846976) = true ∧ nloZ a b c d = tkL c d) ∨ ((tkL a b == -1152921504606846976) = false ∧ nloZ a b c d = tkL a b) := by
    unfold nloZ; cases h : (tkL a b == -1152921504606846976) <;> simp
  have hhi : ((tkH a b == 1152921504606846976) = true ∧ nhiZ a b c d = tkH c d) ∨ ((tkH a b == 1152921504606846976) = false ∧ nhiZ a b c d = tkH a b) := by
    unfold nhiZ; cases h : (tkH a b == 1152921504606846976) <;> simp
  obtain ⟨lo, hlo'⟩ : ∃ lo, lo = nloZ a b c d := ⟨_, rfl⟩
  obtain ⟨hi, hhi'⟩ : ∃ hi, hi = nhiZ a b c d := ⟨_, rfl⟩
  rw [← hlo', ← hhi']
  rw [← hlo'] at hlo
  rw [← hhi'] at hhi
  clear hlo' hhi'
  rcases hlo with ⟨t1, rfl⟩ | ⟨t1, rfl⟩ <;> rcases hhi with ⟨t2, rfl⟩ | ⟨t2, rfl⟩
  all_goals
    go_enter Tryd.func25, Tryd.ntmps25
    go_upto_region 1 with fail
    go_cut [] (fun wx => Boxes w wx (tkL a b) (tkH a b) (tkL c d) (tkH c d) 0 0)
    case first =>
      go_region_with (first | (go_at_call 12; ((with_reducible refine (taken_any _ _ _).mono ?_); rintro e w1 ⟨rfl, hb1⟩); obtain ⟨hc, hf⟩ := bcell hb1; obtain ⟨z0, z1, z2⟩ := three_sz (n := w.heap.size) hb1 (by first | omega | (simp; omega) | (simp; done))))
      all_goals go_wp2_with fail
      all_goals go_meet
      all_goals exact boxes_taken (by assumption) (by assumption) _ _ _ _
    case rest =>
      have HX := Lib.hid hcut
      obtain ⟨⟨z0, p0, p1, f0, f1⟩, ⟨z1, q0, q1, g0, g1⟩, ⟨z2, r0, r1, e0, e1⟩, -⟩ := hcut
      go_wp2_with fail
      go_region_held3 (fun w' => w.heap.size + 1 < w'.heap.size ∧ w'.cell? ⟨w.heap.size, 0, none⟩ = some (.int .i64 (tkL a b)) ∧ w'.cell? ⟨w.heap.size, 1, none⟩ = some (.int .i64 (tkH a b)) ∧ w'.cell? ⟨w.heap.size + 1, 0, none⟩ = some (.int .i64 (tkL c d)) ∧ w'.cell? ⟨w.heap.size + 1, 1, none⟩ = some (.int .i64 (tkH c d))) (first | (exact keep_two hb1 (by assumption)) | go_keep)
        (first | (go_at_call 9; ((with_reducible refine (empty_any _).mono ?_); rintro e w1 ⟨rfl, hb1⟩)))
      have HX1 := Lib.hid ((HX.out.drew.below (by assumption)).below hb1)
      clear z0 p0 p1 f0 f1 z1 q0 q1 g0 g1 z2 r0 r1 e0 e1
      obtain ⟨⟨z0, p0, p1, f0, f1⟩, ⟨z1, q0, q1, g0, g1⟩, ⟨z2, r0, r1, e0, e1⟩, -⟩ := HX1.out
      go_wp2_with fail
      go_quiet (fail)
      go_wp2_with (first | (go_at_call 26; ((with_reducible refine (of_any _ _ _).mono ?_); rintro e w2 ⟨rfl, hb2⟩); obtain ⟨-, -, ⟨-, y0, y1, y2, y3⟩, -⟩ := (HX1.out.drewN nq).below hb2))
      have HX2 := Lib.hid ((HX1.out.drewN nq).below hb2)
      refine bodyPost_ret (v := .agg #[.int .i64 (ofL _ _), .int .i64 (ofH _ _)]) (by simp [results, Tryd.results25, go_sem, y0, y1]) rfl ⟨rfl, ?_⟩
      exact HX2.out.out _ _

theorem narrow_any (a b c d : Int) (w : World) : Calls Tryd.prog 25 #[.agg #[.int .i64 a, .int .i64 b], .agg #[.int .i64 c, .int .i64 d]] w (RetSpan (narL a b c d) (narH a b c d) w) := by
  unfold narL narH
  cases hn : noneS a b
  · cases hm : noneS c d
    · simp only [Bool.false_eq_true, or_self, if_false]
      exact narrow_both a b c d w hn hm
    · simp only [or_true, if_true]
      exact narrow_right a b c d w hn hm
  · simp only [true_or, if_true]
    exact narrow_none a b c d w hn
end Go.Proofs.YtkgdonoilpkiiaaDoor
