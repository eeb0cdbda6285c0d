/- The contracts of Meet, Leq. -/
import Derived.Test.YtlddelnbjihhgaaGreatDoorSpBase
import Derived.Deep.RegionWith
import Derived.Lib.MinMax
namespace Go.Proofs.YtlddelnbjihhgaaGreatDoor.Sp
open Go.RowKit
attribute [local go_sem ↓] Go.wp_at_zero Go.wp_at_succ eq24 eq23 neq24 eqg24 eqg23

/-- A block that holds a span, which may be written. -/
def Box (w : World) (b : Nat) (l h : Int) : Prop :=
  b < w.heap.size ∧ w.cell? ⟨b, 0, none⟩ = some (.int .i64 l) ∧ w.cell? ⟨b, 1, none⟩ = some (.int .i64 h) ∧ w.frozen? ⟨b, 0, none⟩ = false ∧ w.frozen? ⟨b, 1, none⟩ = false
theorem Box.below {w w' : World} {b : Nat} {l h : Int} (x : Box w b l h) (hb : Below w.heap.size w w') : Box w' b l h := by
  obtain ⟨h1, h2, h3, h4, h5⟩ := x
  obtain ⟨hc, hf⟩ := bcell hb
  exact ⟨by have := hb.size; omega, by rw [hc _ _ h1]; exact h2, by rw [hc _ _ h1]; exact h3, by rw [hf _ _ h1]; exact h4, by rw [hf _ _ h1]; exact h5⟩
theorem three_sz {W w1 : World} (hb : Below W.heap.size W w1) {n : Nat} (h : n + 2 < W.heap.size) : n < w1.heap.size ∧ n + 1 < w1.heap.size ∧ n + 1 + 1 < w1.heap.size := by
  have := hb.size; omega

/-- What both boxes, and the third, hold; what was there is as it was. -/
def Boxes (w wx : World) (a b c d x y : Int) : Prop := Box wx w.heap.size a b ∧ Box wx (w.heap.size + 1) c d ∧ Box wx (w.heap.size + 1 + 1) x y ∧ Below w.heap.size w wx
theorem Boxes.below {w wx w' : World} {a b c d x y : Int} (h : Boxes w wx a b c d x y) (hb : Below wx.heap.size wx w') : Boxes w w' a b c d x y :=
  ⟨h.1.below hb, h.2.1.below hb, h.2.2.1.below hb, h.2.2.2.trans (hb.mono (by have := h.1.1; omega))⟩
theorem boxes_new (w : World) (a b c d x y : Int) : Boxes w (((w.alloc (.cells #[.int .i64 a, .int .i64 b] 36)).alloc (.cells #[.int .i64 c, .int .i64 d] 36)).alloc (.cells #[.int .i64 x, .int .i64 y] 36)).drew a b c d x y := by
  refine ⟨⟨?_, ?_, ?_, ?_, ?_⟩, ⟨?_, ?_, ?_, ?_, ?_⟩, ⟨?_, ?_, ?_, ?_, ?_⟩, ((((Below.refl _ _).alloc (Nat.le_refl _) _).alloc (by simp) _).alloc (by simp; omega) _).drew⟩
  all_goals go_simp
theorem boxes_put {w wx : World} {a b c d x y : Int} (h : Boxes w wx a b c d x y) (a' b' c' d' : Int) :
    Boxes w ((((wx.setCell ⟨w.heap.size, 0, none⟩ (.int .i64 a')).setCell ⟨w.heap.size, 1, none⟩ (.int .i64 b')).setCell ⟨w.heap.size + 1, 0, none⟩ (.int .i64 c')).setCell ⟨w.heap.size + 1, 1, none⟩ (.int .i64 d')) a' b' c' d' x y := by
  obtain ⟨⟨z0, p0, p1, f0, f1⟩, ⟨z1, q0, q1, g0, g1⟩, ⟨z2, r0, r1, e0, e1⟩, hb⟩ := h
  refine ⟨⟨?_, ?_, ?_, ?_, ?_⟩, ⟨?_, ?_, ?_, ?_, ?_⟩, ⟨?_, ?_, ?_, ?_, ?_⟩, (((hb.setCell (by simp) _).setCell (by simp) _).setCell (by simp) _).setCell (by simp) _⟩
  all_goals go_simp
/-- Behind 'a, b = taken(a), taken(b)'. -/
theorem boxes_taken {w w1 w2 : World} {a b c d x y : Int} (hb1 : Below ((((w.alloc (.cells #[.int .i64 a, .int .i64 b] 36)).alloc (.cells #[.int .i64 c, .int .i64 d] 36)).alloc (.cells #[.int .i64 x, .int .i64 y] 36)).drew).heap.size ((((w.alloc (.cells #[.int .i64 a, .int .i64 b] 36)).alloc (.cells #[.int .i64 c, .int .i64 d] 36)).alloc (.cells #[.int .i64 x, .int .i64 y] 36)).drew) w1)
    (hb2 : Below w1.heap.size w1 w2) (a' b' c' d' : Int) :
    Boxes w ((((w2.setCell ⟨w.heap.size, 0, none⟩ (.int .i64 a')).setCell ⟨w.heap.size, 1, none⟩ (.int .i64 b')).setCell ⟨w.heap.size + 1, 0, none⟩ (.int .i64 c')).setCell ⟨w.heap.size + 1, 1, none⟩ (.int .i64 d')) a' b' c' d' x y :=
  boxes_put (((boxes_new w a b c d x y).below hb1).below hb2) a' b' c' d'

set_option maxHeartbeats 1600000 in
theorem meet_any (a b c d : Int) (w : World) : Calls Tryz.prog 41 #[.agg #[.int .i64 a, .int .i64 b], .agg #[.int .i64 c, .int .i64 d]] w (RetSpan (meetL a b c d) (meetH a b c d) w) := by
  go_enter Tryz.func41, Tryz.ntmps41
  go_upto_region 1 with fail
  go_cut [] (fun wx => Boxes w wx (tkL a b) (tkH a b) (tkL c d) (tkH c d) 0 0)
  case first =>
    go_region_with (first | (go_at_call 82; ((with_reducible refine (taken_any _ _ _).mono ?_); rintro e w1 ⟨rfl, hb1⟩); obtain ⟨hc, hf⟩ := bcell hb1; obtain ⟨z0, z1, z2⟩ := three_sz (n := w.heap.size) hb1 (by first | omega | (simp; omega) | (simp; done))))
    all_goals go_wp2_with fail
    all_goals go_meet
    all_goals exact boxes_taken (by assumption) (by assumption) _ _ _ _
  case rest =>
    obtain ⟨⟨z0, p0, p1, f0, f1⟩, ⟨z1, q0, q1, g0, g1⟩, ⟨z2, r0, r1, e0, e1⟩, hB⟩ := hcut
    go_wp2_with (first | (go_at_call 83; ((with_reducible refine (of_any _ _ _).mono ?_); rintro e w1 ⟨rfl, hb1⟩); obtain ⟨hc, hf⟩ := bcell hb1))
    refine bodyPost_ret (v := .agg #[.int .i64 (ofL (max (tkL a b) (tkL c d)) (min (tkH a b) (tkH c d))), .int .i64 (ofH (max (tkL a b) (tkL c d)) (min (tkH a b) (tkH c d)))]) (by simp [results, Tryz.results41, go_sem, hc, z2, r0, r1]) rfl ⟨rfl, ?_⟩
    exact (((hB.trans (hb1.mono (by omega))).setCell (by simp; omega) _).setCell (by simp; omega) _)

/-- The two boxes' cells, said in one row. -/
theorem keep_two {W w1 : World} (hb : Below W.heap.size W w1) {n : Nat} {x y z t : Option Value} (h : n + 1 < W.heap.size ∧ W.cell? ⟨n, 0, none⟩ = x ∧ W.cell? ⟨n, 1, none⟩ = y ∧ W.cell? ⟨n + 1, 0, none⟩ = z ∧ W.cell? ⟨n + 1, 1, none⟩ = t) :
    n + 1 < w1.heap.size ∧ w1.cell? ⟨n, 0, none⟩ = x ∧ w1.cell? ⟨n, 1, none⟩ = y ∧ w1.cell? ⟨n + 1, 0, none⟩ = z ∧ w1.cell? ⟨n + 1, 1, none⟩ = t := by
  obtain ⟨h0, h1, h2, h3, h4⟩ := h
  obtain ⟨hc, -⟩ := bcell hb
  exact ⟨by have := hb.size; omega, by rw [hc _ _ (by omega)]; exact h1, by rw [hc _ _ (by omega)]; exact h2, by rw [hc _ _ h0]; exact h3, by rw [hc _ _ h0]; exact h4⟩

set_option maxHeartbeats 1600000 in
theorem leq_any (a b c d : Int) (w : World) : Calls Tryz.prog 102 #[.agg #[.int .i64 a, .int .i64 b], .agg #[.int .i64 c, .int .i64 d]] w (RetBool (leqS a b c d) w) := by
  go_enter Tryz.func102, Tryz.ntmps102
  go_wp2_with fail
  go_region_held3 (fun w' => w.heap.size + 1 < w'.heap.size ∧ w'.cell? ⟨w.heap.size, 0, none⟩ = some (.int .i64 a) ∧ w'.cell? ⟨w.heap.size, 1, none⟩ = some (.int .i64 b) ∧ w'.cell? ⟨w.heap.size + 1, 0, none⟩ = some (.int .i64 c) ∧ w'.cell? ⟨w.heap.size + 1, 1, none⟩ = some (.int .i64 d)) (first | (exact keep_two hb1 (by assumption)) | go_keep)
    (first | (go_at_call 41; ((with_reducible refine (meet_any _ _ _ _ _).mono ?_); rintro e w1 ⟨rfl, hb1⟩)) | (go_at_call 82; ((with_reducible refine (taken_any _ _ _).mono ?_); rintro e w1 ⟨rfl, hb1⟩)))
  all_goals go_wp2_with fail
  all_goals go_ret
  all_goals exact ⟨rfl, below_trans ((((Below.refl _ _).alloc (Nat.le_refl _) _).alloc (by simp) _).drew) (below_trans (by assumption) (by assumption))⟩
end Go.Proofs.YtlddelnbjihhgaaGreatDoor.Sp
