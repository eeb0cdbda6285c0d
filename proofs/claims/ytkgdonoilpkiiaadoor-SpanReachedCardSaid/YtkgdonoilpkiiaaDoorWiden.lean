/- The contract of Widen. -/
import Derived.Test.YtkgdonoilpkiiaaDoorNarrow
import Derived.Test.YtkgdonoilpkiiaaDoorSteps
namespace Go.Proofs.YtkgdonoilpkiiaaDoor
open Go.RowKit
attribute [local go_sem ↓] Go.wp_at_zero Go.wp_at_succ eq24 eq23 neq24 eqg24 eqg23

theorem post_span {fn : Func} {l h : Int} {w0 : World} {a : Act} {w : World} (hr : (results fn a.tmps).run Tryd.prog w = .ok (.agg #[.int .i64 l, .int .i64 h]) w) (hd : a.defers = []) (hb : Below w0.heap.size w0 w) : bodyPost Tryd.prog fn (RetSpan l h w0) .ret a w := bodyPost_ret hr hd ⟨rfl, hb⟩

set_option maxHeartbeats 1600000 in
theorem widen_in (a b c d : Int) (A : Option Addr) (m cap : Nat) (w : World) (hl : leqS (tkL c d) (tkH c d) (tkL a b) (tkH a b) = true) : Calls Tryd.prog 22 #[.agg #[.int .i64 a, .int .i64 b], .agg #[.int .i64 c, .int .i64 d], .slice A m cap] w (RetSpan (tkL a b) (tkH a b) w) := by
  go_enter Tryd.func22, Tryd.ntmps22
  go_upto_region 1 with fail
  go_cut [] (fun wx => Boxes w wx (tkL a b) (tkH a b) (tkL c d) (tkH c d) 0 0)
  case first =>
    go_region_with (first | (go_at_call 12; ((with_reducible refine (taken_any _ _ _).mono ?_); rintro e w1 ⟨rfl, hb1⟩); obtain ⟨hc, hf⟩ := bcell hb1; obtain ⟨z0, z1, z2⟩ := three_sz (n := w.heap.size) hb1 (by first | omega | (simp; omega) | (simp; done))))
    all_goals go_wp2_with fail
    all_goals go_meet
    all_goals exact boxes_taken (by assumption) (by assumption) _ _ _ _
  case rest =>
    have HX := Lib.hid hcut
    obtain ⟨⟨z0, p0, p1, f0, f1⟩, ⟨z1, q0, q1, g0, g1⟩, ⟨z2, r0, r1, e0, e1⟩, -⟩ := hcut
    go_wp2_with (first | (go_at_call 35; ((with_reducible refine (leq_any _ _ _ _ _).mono ?_); rintro e w1 ⟨rfl, hb1⟩); have HX1 := Lib.hid (HX.out.below hb1); clear z0 p0 p1 f0 f1 z1 q0 q1 g0 g1 z2 r0 r1 e0 e1; obtain ⟨⟨z0, p0, p1, f0, f1⟩, ⟨z1, q0, q1, g0, g1⟩, ⟨z2, r0, r1, e0, e1⟩, -⟩ := HX1.out))
    refine bodyPost_ret (v := .agg #[.int .i64 (tkL a b), .int .i64 (tkH a b)]) (by simp [results, Tryd.results22, go_sem, r0, r1]) rfl ⟨rfl, ?_⟩
    exact HX1.out.out _ _

set_option maxHeartbeats 1600000 in
theorem widen_none (a b c d : Int) (A : Option Addr) (m cap : Nat) (w : World) (hl : leqS (tkL c d) (tkH c d) (tkL a b) (tkH a b) = false) (hn : sameB (tkL a b) (tkH a b) 1 0 = true) : Calls Tryd.prog 22 #[.agg #[.int .i64 a, .int .i64 b], .agg #[.int .i64 c, .int .i64 d], .slice A m cap] w (RetSpan (tkL c d) (tkH c d) w) := by
  go_enter Tryd.func22, Tryd.ntmps22
  go_upto_region 1 with fail
  go_cut [] (fun wx => Boxes w wx (tkL a b) (tkH a b) (tkL c d) (tkH c d) 0 0)
  case first =>
    go_region_with (first | (go_at_call 12; ((with_reducible refine (taken_any _ _ _).mono ?_); rintro e w1 ⟨rfl, hb1⟩); obtain ⟨hc, hf⟩ := bcell hb1; obtain ⟨z0, z1, z2⟩ := three_sz (n := w.heap.size) hb1 (by first | omega | (simp; omega) | (simp; done))))
    all_goals go_wp2_with fail
    all_goals go_meet
    all_goals exact boxes_taken (by assumption) (by assumption) _ _ _ _
  case rest =>
    have HX := Lib.hid hcut
    obtain ⟨⟨z0, p0, p1, f0, f1⟩, ⟨z1, q0, q1, g0, g1⟩, ⟨z2, r0, r1, e0, e1⟩, -⟩ := hcut
    go_wp2_with (first | (go_at_call 35; ((with_reducible refine (leq_any _ _ _ _ _).mono ?_); rintro e w1 ⟨rfl, hb1⟩); have HX1 := Lib.hid (HX.out.below hb1); clear z0 p0 p1 f0 f1 z1 q0 q1 g0 g1 z2 r0 r1 e0 e1; obtain ⟨⟨z0, p0, p1, f0, f1⟩, ⟨z1, q0, q1, g0, g1⟩, ⟨z2, r0, r1, e0, e1⟩, -⟩ := HX1.out))
    go_region_held3 (fun w' => w.heap.size + 1 < w'.heap.size ∧ w'.cell? ⟨w.heap.size, 0, none⟩ = some (.int .i64 (tkL a b)) ∧ w'.cell? ⟨w.heap.size, 1, none⟩ = some (.int .i64 (tkH a b)) ∧ w'.cell? ⟨w.heap.size + 1, 0, none⟩ = some (.int .i64 (tkL c d)) ∧ w'.cell? ⟨w.heap.size + 1, 1, none⟩ = some (.int .i64 (tkH c d))) (first | (exact keep_two hb2 (by assumption)) | go_keep)
      (first | (go_at_call 9; ((with_reducible refine (empty_any _).mono ?_); rintro e w2 ⟨rfl, hb2⟩)))
    have HX2 := Lib.hid (HX1.out.drew.below hb2)
    clear z0 p0 p1 f0 f1 z1 q0 q1 g0 g1 z2 r0 r1 e0 e1
    obtain ⟨⟨z0, p0, p1, f0, f1⟩, ⟨z1, q0, q1, g0, g1⟩, ⟨z2, r0, r1, e0, e1⟩, -⟩ := HX2.out
    go_wp2_with fail
    refine bodyPost_ret (v := .agg #[.int .i64 (tkL c d), .int .i64 (tkH c d)]) (by simp [results, Tryd.results22, go_sem, r0, r1]) rfl ⟨rfl, ?_⟩
    exact HX2.out.out _ _

set_option maxHeartbeats 1600000 in
theorem widen_both (f : Nat → Int) (a b c d : Int) (A : Option Addr) (m cap : Nat) (w : World) (hz : m ≤ 4611686018427387904) (hI : Ints w A m f) (hl : leqS (tkL c d) (tkH c d) (tkL a b) (tkH a b) = false) (hn : sameB (tkL a b) (tkH a b) 1 0 = false) : Calls Tryd.prog 22 #[.agg #[.int .i64 a, .int .i64 b], .agg #[.int .i64 c, .int .i64 d], .slice A m cap] w (RetSpan (wloZ f m a b c d) (whiZ f m a b c d) w) := by
  have hlo : (tkL c d < tkL a b ∧ wloZ f m a b c d = dnF f (tkL c d) m) ∨ (¬ tkL c d < tkL a b ∧ wloZ f m a b c d = tkL a b) := by
    unfold wloZ; by_cases h : tkL c d < tkL a b <;> simp [h]
  have hhi : (tkH a b < tkH c d ∧ whiZ f m a b c d = upF f (tkH c d) m) ∨ (¬ tkH a b < tkH c d ∧ whiZ f m a b c d = tkH a b) := by
    unfold whiZ; by_cases h : tkH a b < tkH c d <;> simp [h]
  obtain ⟨lo, hlo'⟩ : ∃ lo, lo = wloZ f m a b c d := ⟨_, rfl⟩
  obtain ⟨hi, hhi'⟩ : ∃ hi, hi = whiZ f m a b c d := ⟨_, rfl⟩
  rw [← hlo', ← hhi']
  rw [← hlo'] at hlo
  rw [← hhi'] at hhi
  clear hlo' hhi'
  have HI := Lib.hid hI
  clear hI
  rcases hlo with ⟨t1, rfl⟩ | ⟨t1, rfl⟩ <;> rcases hhi with ⟨t2, rfl⟩ | ⟨t2, rfl⟩
  all_goals
    go_enter Tryd.func22, Tryd.ntmps22
    go_upto_region 1 with fail
    go_cut [] (fun wx => Boxes w wx (tkL a b) (tkH a b) (tkL c d) (tkH c d) 0 0)
    case first =>
      go_region_with (first | (go_at_call 12; ((with_reducible refine (taken_any _ _ _).mono ?_); rintro e w1 ⟨rfl, hb1⟩); obtain ⟨hc, hf⟩ := bcell hb1; obtain ⟨z0, z1, z2⟩ := three_sz (n := w.heap.size) hb1 (by first | omega | (simp; omega) | (simp; done))))
      all_goals go_wp2_with fail
      all_goals go_meet
      all_goals exact boxes_taken (by assumption) (by assumption) _ _ _ _
    case rest =>
      have HX := Lib.hid hcut
      obtain ⟨⟨z0, p0, p1, f0, f1⟩, ⟨z1, q0, q1, g0, g1⟩, ⟨z2, r0, r1, e0, e1⟩, -⟩ := hcut
      go_wp2_with (first | (go_at_call 35; ((with_reducible refine (leq_any _ _ _ _ _).mono ?_); rintro e w1 ⟨rfl, hb1⟩); have HX1 := Lib.hid (HX.out.below hb1); clear z0 p0 p1 f0 f1 z1 q0 q1 g0 g1 z2 r0 r1 e0 e1; obtain ⟨⟨z0, p0, p1, f0, f1⟩, ⟨z1, q0, q1, g0, g1⟩, ⟨z2, r0, r1, e0, e1⟩, -⟩ := HX1.out))
      go_region_held3 (fun w' => w.heap.size + 1 < w'.heap.size ∧ w'.cell? ⟨w.heap.size, 0, none⟩ = some (.int .i64 (tkL a b)) ∧ w'.cell? ⟨w.heap.size, 1, none⟩ = some (.int .i64 (tkH a b)) ∧ w'.cell? ⟨w.heap.size + 1, 0, none⟩ = some (.int .i64 (tkL c d)) ∧ w'.cell? ⟨w.heap.size + 1, 1, none⟩ = some (.int .i64 (tkH c d))) (first | (exact keep_two hb2 (by assumption)) | go_keep)
        (first | (go_at_call 9; ((with_reducible refine (empty_any _).mono ?_); rintro e w2 ⟨rfl, hb2⟩)))
      have HX2 := Lib.hid (HX1.out.drew.below hb2)
      clear z0 p0 p1 f0 f1 z1 q0 q1 g0 g1 z2 r0 r1 e0 e1
      obtain ⟨⟨z0, p0, p1, f0, f1⟩, ⟨z1, q0, q1, g0, g1⟩, ⟨z2, r0, r1, e0, e1⟩, -⟩ := HX2.out
      have HJ := Lib.hid (HI.out.below HX2.out.2.2.2)
      have HK := Lib.hid (show ∀ v, Ints (w2.setCell ⟨w.heap.size, 0, none⟩ v) A m f from fun v => HI.out.below (HX2.out.2.2.2.setCell (by simp) _))
      go_wp2_with (first
        | (go_at_call 36; ((with_reducible refine (down_any f _ A m cap _ hz HJ.out).mono ?_); rintro e w' ⟨rfl, rfl⟩))
        | (go_at_call 37; ((with_reducible refine (up_any f _ A m cap _ hz (by first | exact HJ.out | exact HK.out _)).mono ?_); rintro e w' ⟨rfl, rfl⟩)))
      refine post_span ?_ rfl ?_
      · simp [results, Tryd.results22, go_sem, r0, r1]
      first
        | exact HX2.out.out _ _
        | exact ((HX2.out.2.2.2.setCell (by simp) _).setCell (by simp; omega) _).setCell (by simp; omega) _
        | exact (((HX2.out.2.2.2.setCell (by simp) _).setCell (by simp) _).setCell (by simp; omega) _).setCell (by simp; omega) _

theorem widen_any (f : Nat → Int) (a b c d : Int) (A : Option Addr) (m cap : Nat) (w : World) (hz : m ≤ 4611686018427387904) (hI : Ints w A m f) : Calls Tryd.prog 22 #[.agg #[.int .i64 a, .int .i64 b], .agg #[.int .i64 c, .int .i64 d], .slice A m cap] w (RetSpan (widL f m a b c d) (widH f m a b c d) w) := by
  unfold widL widH
  have e := leqS_tk c d a b
  cases hl : leqS c d a b
  · rw [hl] at e
    cases hn : noneS a b
    · simp only [Bool.false_eq_true, if_false]
      exact widen_both f a b c d A m cap w hz hI e hn
    · simp only [Bool.false_eq_true, if_false, if_true]
      exact widen_none a b c d A m cap w e hn
  · rw [hl] at e
    simp only [if_true]
    exact widen_in a b c d A m cap w e
end Go.Proofs.YtkgdonoilpkiiaaDoor
