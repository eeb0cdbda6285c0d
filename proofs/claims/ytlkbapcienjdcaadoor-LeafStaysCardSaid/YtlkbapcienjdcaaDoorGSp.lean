/- Put together of: SpSets, SpHull, SpSteps, SpJoin, SpNarrow, SpWiden. -/
import Derived.Test.YtlkbapcienjdcaaDoorSpBase
import Derived.Deep.RegionWith
import Derived.Lib.MinMax
import Derived.Test.YtlkbapcienjdcaaDoorGNums
import Derived.LoopTactic
import Derived.Deep.QuietTactic
import Derived.BigQuiet
/- The contracts of Meet, Leq. -/
namespace Go.Proofs.YtlkbapcienjdcaaDoor.Sp
open Go.RowKit
attribute [local go_sem ↓] Go.wp_at_zero Go.wp_at_succ eq24 neq24 eqg24

/-- A block that holds a span, which may be written. -/
def Box (w : World) (b : Nat) (l h : Int) : Prop :=
  b < w.heap.size ∧ w.cell? ⟨b, 0, none⟩ = some (.int .i64 l) ∧ w.cell? ⟨b, 1, none⟩ = some (.int .i64 h) ∧ w.frozen? ⟨b, 0, none⟩ = false ∧ w.frozen? ⟨b, 1, none⟩ = false
theorem Box.below {w w' : World} {b : Nat} {l h : Int} (x : Box w b l h) (hb : Below w.heap.size w w') : Box w' b l h := by
  obtain ⟨h1, h2, h3, h4, h5⟩ := x
  obtain ⟨hc, hf⟩ := bcell hb
  exact ⟨by have := hb.size; omega, by rw [hc _ _ h1]; exact h2, by rw [hc _ _ h1]; exact h3, by rw [hf _ _ h1]; exact h4, by rw [hf _ _ h1]; exact h5⟩
theorem three_sz {W w1 : World} (hb : Below W.heap.size W w1) {n : Nat} (h : n + 2 < W.heap.size) : n < w1.heap.size ∧ n + 1 < w1.heap.size ∧ n + 1 + 1 < w1.heap.size := by
  have := hb.size; omega

/-- What both boxes, and the third, hold; what was there is as it was. -/
def Boxes (w wx : World) (a b c d x y : Int) : Prop := Box wx w.heap.size a b ∧ Box wx (w.heap.size + 1) c d ∧ Box wx (w.heap.size + 1 + 1) x y ∧ Below w.heap.size w wx
theorem Boxes.below {w wx w' : World} {a b c d x y : Int} (h : Boxes w wx a b c d x y) (hb : Below wx.heap.size wx w') : Boxes w w' a b c d x y :=
  ⟨h.1.below hb, h.2.1.below hb, h.2.2.1.below hb, h.2.2.2.trans (hb.mono (by have := h.1.1; omega))⟩
theorem boxes_new (w : World) (a b c d x y : Int) : Boxes w (((w.alloc (.cells #[.int .i64 a, .int .i64 b] 55)).alloc (.cells #[.int .i64 c, .int .i64 d] 55)).alloc (.cells #[.int .i64 x, .int .i64 y] 55)).drew a b c d x y := by
  refine ⟨⟨?_, ?_, ?_, ?_, ?_⟩, ⟨?_, ?_, ?_, ?_, ?_⟩, ⟨?_, ?_, ?_, ?_, ?_⟩, ((((Below.refl _ _).alloc (Nat.le_refl _) _).alloc (by simp) _).alloc (by simp; omega) _).drew⟩
  all_goals go_simp
theorem boxes_put {w wx : World} {a b c d x y : Int} (h : Boxes w wx a b c d x y) (a' b' c' d' : Int) :
    Boxes w ((((wx.setCell ⟨w.heap.size, 0, none⟩ (.int .i64 a')).setCell ⟨w.heap.size, 1, none⟩ (.int .i64 b')).setCell ⟨w.heap.size + 1, 0, none⟩ (.int .i64 c')).setCell ⟨w.heap.size + 1, 1, none⟩ (.int .i64 d')) a' b' c' d' x y := by
  obtain ⟨⟨z0, p0, p1, f0, f1⟩, ⟨z1, q0, q1, g0, g1⟩, ⟨z2, r0, r1, e0, e1⟩, hb⟩ := h
  refine ⟨⟨?_, ?_, ?_, ?_, ?_⟩, ⟨?_, ?_, ?_, ?_, ?_⟩, ⟨?_, ?_, ?_, ?_, ?_⟩, (((hb.setCell (by simp) _).setCell (by simp) _).setCell (by simp) _).setCell (by simp) _⟩
  all_goals go_simp
/-- Behind 'a, b = taken(a), taken(b)'. -/
theorem boxes_taken {w w1 w2 : World} {a b c d x y : Int} (hb1 : Below ((((w.alloc (.cells #[.int .i64 a, .int .i64 b] 55)).alloc (.cells #[.int .i64 c, .int .i64 d] 55)).alloc (.cells #[.int .i64 x, .int .i64 y] 55)).drew).heap.size ((((w.alloc (.cells #[.int .i64 a, .int .i64 b] 55)).alloc (.cells #[.int .i64 c, .int .i64 d] 55)).alloc (.cells #[.int .i64 x, .int .i64 y] 55)).drew) w1)
    (hb2 : Below w1.heap.size w1 w2) (a' b' c' d' : Int) :
    Boxes w ((((w2.setCell ⟨w.heap.size, 0, none⟩ (.int .i64 a')).setCell ⟨w.heap.size, 1, none⟩ (.int .i64 b')).setCell ⟨w.heap.size + 1, 0, none⟩ (.int .i64 c')).setCell ⟨w.heap.size + 1, 1, none⟩ (.int .i64 d')) a' b' c' d' x y :=
  boxes_put (((boxes_new w a b c d x y).below hb1).below hb2) a' b' c' d'

set_option maxHeartbeats 1600000 in
theorem meet_any (a b c d : Int) (w : World) : Calls Tryd.prog 44 #[.agg #[.int .i64 a, .int .i64 b], .agg #[.int .i64 c, .int .i64 d]] w (RetSpan (meetL a b c d) (meetH a b c d) w) := by
  go_enter Tryd.func44, Tryd.ntmps44
  go_upto_region 1 with fail
  go_cut [] (fun wx => Boxes w wx (tkL a b) (tkH a b) (tkL c d) (tkH c d) 0 0)
  case first =>
    go_region_with (first | (go_at_call 62; ((with_reducible refine (taken_any _ _ _).mono ?_); rintro e w1 ⟨rfl, hb1⟩); obtain ⟨hc, hf⟩ := bcell hb1; obtain ⟨z0, z1, z2⟩ := three_sz (n := w.heap.size) hb1 (by first | omega | (simp; omega) | (simp; done))))
    all_goals go_wp2_with fail
    all_goals go_meet
    all_goals exact boxes_taken (by assumption) (by assumption) _ _ _ _
  case rest =>
    obtain ⟨⟨z0, p0, p1, f0, f1⟩, ⟨z1, q0, q1, g0, g1⟩, ⟨z2, r0, r1, e0, e1⟩, hB⟩ := hcut
    go_wp2_with (first | (go_at_call 63; ((with_reducible refine (of_any _ _ _).mono ?_); rintro e w1 ⟨rfl, hb1⟩); obtain ⟨hc, hf⟩ := bcell hb1))
    refine bodyPost_ret (v := .agg #[.int .i64 (ofL (max (tkL a b) (tkL c d)) (min (tkH a b) (tkH c d))), .int .i64 (ofH (max (tkL a b) (tkL c d)) (min (tkH a b) (tkH c d)))]) (by simp [results, Tryd.results44, go_sem, hc, z2, r0, r1]) rfl ⟨rfl, ?_⟩
    exact (((hB.trans (hb1.mono (by omega))).setCell (by simp; omega) _).setCell (by simp; omega) _)

/-- The two boxes' cells, said in one row. -/
theorem keep_two {W w1 : World} (hb : Below W.heap.size W w1) {n : Nat} {x y z t : Option Value} (h : n + 1 < W.heap.size ∧ W.cell? ⟨n, 0, none⟩ = x ∧ W.cell? ⟨n, 1, none⟩ = y ∧ W.cell? ⟨n + 1, 0, none⟩ = z ∧ W.cell? ⟨n + 1, 1, none⟩ = t) :
    n + 1 < w1.heap.size ∧ w1.cell? ⟨n, 0, none⟩ = x ∧ w1.cell? ⟨n, 1, none⟩ = y ∧ w1.cell? ⟨n + 1, 0, none⟩ = z ∧ w1.cell? ⟨n + 1, 1, none⟩ = t := by
  obtain ⟨h0, h1, h2, h3, h4⟩ := h
  obtain ⟨hc, -⟩ := bcell hb
  exact ⟨by have := hb.size; omega, by rw [hc _ _ (by omega)]; exact h1, by rw [hc _ _ (by omega)]; exact h2, by rw [hc _ _ h0]; exact h3, by rw [hc _ _ h0]; exact h4⟩

set_option maxHeartbeats 1600000 in
theorem leq_any (a b c d : Int) (w : World) : Calls Tryd.prog 82 #[.agg #[.int .i64 a, .int .i64 b], .agg #[.int .i64 c, .int .i64 d]] w (RetBool (leqS a b c d) w) := by
  go_enter Tryd.func82, Tryd.ntmps82
  go_wp2_with fail
  go_region_held3 (fun w' => w.heap.size + 1 < w'.heap.size ∧ w'.cell? ⟨w.heap.size, 0, none⟩ = some (.int .i64 a) ∧ w'.cell? ⟨w.heap.size, 1, none⟩ = some (.int .i64 b) ∧ w'.cell? ⟨w.heap.size + 1, 0, none⟩ = some (.int .i64 c) ∧ w'.cell? ⟨w.heap.size + 1, 1, none⟩ = some (.int .i64 d)) (first | (exact keep_two hb1 (by assumption)) | go_keep)
    (first | (go_at_call 44; ((with_reducible refine (meet_any _ _ _ _ _).mono ?_); rintro e w1 ⟨rfl, hb1⟩)) | (go_at_call 62; ((with_reducible refine (taken_any _ _ _).mono ?_); rintro e w1 ⟨rfl, hb1⟩)))
  all_goals go_wp2_with fail
  all_goals go_ret
  all_goals exact ⟨rfl, below_trans ((((Below.refl _ _).alloc (Nat.le_refl _) _).alloc (by simp) _).drew) (below_trans (by assumption) (by assumption))⟩
end Go.Proofs.YtlkbapcienjdcaaDoor.Sp

/- The contract of Hull: the least span of a slice's numbers. -/
namespace Go.Proofs.YtlkbapcienjdcaaDoor.Sp
open Go.RowKit
attribute [local go_sem ↓] Go.wp_at_zero Go.wp_at_succ eq24 neq24 eqg24

theorem below_drewN {B : Nat} {a w : World} (h : Below B a w) (n : Nat) : Below B a (w.drewN n) := ⟨h.os, h.tape, h.output, h.size, h.block⟩

/-- Four numbers, in a row. -/
def four (a b c d : Int) : Nat → Int
  | 0 => a
  | 1 => b
  | 2 => c
  | _ => d
end Go.Proofs.YtlkbapcienjdcaaDoor.Sp

/- The contracts of stepDown and stepUp. -/
namespace Go.Proofs.YtlkbapcienjdcaaDoor.Sp
open Go.RowKit

/-- A slice of m numbers, f 0 and on, that lies in memory. -/
def Ints (w : World) (A : Option Addr) (m : Nat) (f : Nat → Int) : Prop :=
  0 < m → ∃ b off : Nat, A = some ⟨b, off, none⟩ ∧ b < w.heap.size ∧ ∀ j, j < m → w.cell? ⟨b, off + j, none⟩ = some (.int .i64 (f j))
theorem Ints.below {w w' : World} {A : Option Addr} {m : Nat} {f : Nat → Int} (h : Ints w A m f) (hb : Below w.heap.size w w') : Ints w' A m f := fun hm => by
  obtain ⟨b, off, e, hlt, hc⟩ := h hm
  exact ⟨b, off, e, by have := hb.size; omega, fun j hj => by rw [(bcell hb).1 _ _ hlt]; exact hc j hj⟩

set_option maxHeartbeats 400000 in
theorem down_none (n : Int) (A : Option Addr) (cap : Nat) (w : World) : Calls Tryd.prog 83 #[.int .i64 n, .slice A 0 cap] w fun e w' => e = .returned (.int .i64 (-1152921504606846976)) ∧ w = w' := by
  go_enter Tryd.func83, Tryd.ntmps83
  go_wp2_with fail
  go_loop [5, 10] (fun t i => t = .int .i64 (-1152921504606846976) ∧ i = .int .i64 0) (fun _ _ => 0)
  case atStart => exact ⟨rfl, rfl⟩
  case round =>
    obtain ⟨rfl, rfl⟩ := hrel
    go_wp2_with fail
    go_ret
    exact ⟨rfl, rfl⟩

set_option maxHeartbeats 800000 in
theorem down_some (f : Nat → Int) (n : Int) (b off m cap : Nat) (w : World) (hz : m ≤ 9223372036854775807) (cells : ∀ j, j < m → w.cell? ⟨b, off + j, none⟩ = some (.int .i64 (f j))) :
    Calls Tryd.prog 83 #[.int .i64 n, .slice (some ⟨b, off, none⟩) m cap] w fun e w' => e = .returned (.int .i64 (dnF f n m)) ∧ w = w' := by
  have HC := Lib.hid cells
  clear cells
  go_enter Tryd.func83, Tryd.ntmps83
  go_wp2_with fail
  go_loop [5, 10] (fun t i => ∃ k : Nat, k ≤ m ∧ i = .int .i64 k ∧ t = .int .i64 (dnF f n k)) (fun _ i => m - (intOf i).toNat)
  case atStart => exact ⟨0, Nat.zero_le _, rfl, rfl⟩
  case round =>
    obtain ⟨k, hk, rfl, rfl⟩ := hrel
    by_cases hlt : k < m
    · have hcell := HC.out k hlt
      by_cases hle : f k ≤ n
      · have HS := Lib.hid (dnF_yes hle)
        go_wp2_with fail
        go_round
        case rel => exact ⟨k + 1, by omega, by go_num, by rw [HS.out]⟩
        case measure => simp [intOf]; omega
      · have HS := Lib.hid (dnF_no hle)
        go_wp2_with fail
        go_round
        case rel => exact ⟨k + 1, by omega, by go_num, by rw [HS.out]⟩
        case measure => simp [intOf]; omega
    · obtain rfl : k = m := by omega
      go_wp2_with fail
      go_ret
      exact ⟨rfl, rfl⟩

set_option maxHeartbeats 400000 in
theorem up_none (n : Int) (A : Option Addr) (cap : Nat) (w : World) : Calls Tryd.prog 84 #[.int .i64 n, .slice A 0 cap] w fun e w' => e = .returned (.int .i64 1152921504606846976) ∧ w = w' := by
  go_enter Tryd.func84, Tryd.ntmps84
  go_wp2_with fail
  go_loop [5, 10] (fun t i => t = .int .i64 1152921504606846976 ∧ i = .int .i64 0) (fun _ _ => 0)
  case atStart => exact ⟨rfl, rfl⟩
  case round =>
    obtain ⟨rfl, rfl⟩ := hrel
    go_wp2_with fail
    go_ret
    exact ⟨rfl, rfl⟩

set_option maxHeartbeats 800000 in
theorem up_some (f : Nat → Int) (n : Int) (b off m cap : Nat) (w : World) (hz : m ≤ 9223372036854775807) (cells : ∀ j, j < m → w.cell? ⟨b, off + j, none⟩ = some (.int .i64 (f j))) :
    Calls Tryd.prog 84 #[.int .i64 n, .slice (some ⟨b, off, none⟩) m cap] w fun e w' => e = .returned (.int .i64 (upF f n m)) ∧ w = w' := by
  have HC := Lib.hid cells
  clear cells
  go_enter Tryd.func84, Tryd.ntmps84
  go_wp2_with fail
  go_loop [5, 10] (fun t i => ∃ k : Nat, k ≤ m ∧ i = .int .i64 k ∧ t = .int .i64 (upF f n k)) (fun _ i => m - (intOf i).toNat)
  case atStart => exact ⟨0, Nat.zero_le _, rfl, rfl⟩
  case round =>
    obtain ⟨k, hk, rfl, rfl⟩ := hrel
    by_cases hlt : k < m
    · have hcell := HC.out k hlt
      by_cases hle : n ≤ f k
      · have HS := Lib.hid (upF_yes hle)
        go_wp2_with fail
        go_round
        case rel => exact ⟨k + 1, by omega, by go_num, by rw [HS.out]⟩
        case measure => simp [intOf]; omega
      · have HS := Lib.hid (upF_no hle)
        go_wp2_with fail
        go_round
        case rel => exact ⟨k + 1, by omega, by go_num, by rw [HS.out]⟩
        case measure => simp [intOf]; omega
    · obtain rfl : k = m := by omega
      go_wp2_with fail
      go_ret
      exact ⟨rfl, rfl⟩

theorem down_any (f : Nat → Int) (n : Int) (A : Option Addr) (m cap : Nat) (w : World) (hz : m ≤ 9223372036854775807) (h : Ints w A m f) :
    Calls Tryd.prog 83 #[.int .i64 n, .slice A m cap] w fun e w' => e = .returned (.int .i64 (dnF f n m)) ∧ w = w' := by
  match m with
  | 0 => exact down_none n A cap w
  | m + 1 =>
    obtain ⟨b, off, rfl, -, hc⟩ := h (by omega)
    exact down_some f n b off (m + 1) cap w hz hc
theorem up_any (f : Nat → Int) (n : Int) (A : Option Addr) (m cap : Nat) (w : World) (hz : m ≤ 9223372036854775807) (h : Ints w A m f) :
    Calls Tryd.prog 84 #[.int .i64 n, .slice A m cap] w fun e w' => e = .returned (.int .i64 (upF f n m)) ∧ w = w' := by
  match m with
  | 0 => exact up_none n A cap w
  | m + 1 =>
    obtain ⟨b, off, rfl, -, hc⟩ := h (by omega)
    exact up_some f n b off (m + 1) cap w hz hc
end Go.Proofs.YtlkbapcienjdcaaDoor.Sp

/- The contract of Join. -/
namespace Go.Proofs.YtlkbapcienjdcaaDoor.Sp
open Go.RowKit
attribute [local go_sem ↓] Go.wp_at_zero Go.wp_at_succ eq24 neq24 eqg24

theorem Boxes.drew {w wx : World} {a b c d x y : Int} (h : Boxes w wx a b c d x y) : Boxes w wx.drew a b c d x y := ⟨h.1, h.2.1, h.2.2.1, h.2.2.2.drew⟩
theorem Boxes.out {w wx : World} {a b c d x y : Int} (h : Boxes w wx a b c d x y) (x' y' : Int) : Below w.heap.size w ((wx.setCell ⟨w.heap.size + 1 + 1, 0, none⟩ (.int .i64 x')).setCell ⟨w.heap.size + 1 + 1, 1, none⟩ (.int .i64 y')) :=
  (h.2.2.2.setCell (by simp; omega) _).setCell (by simp; omega) _

theorem hull_join {a b c d : Int} (h1 : noneS a b = false) (h2 : noneS c d = false) : hullL (four (tkL a b) (tkH a b) (tkL c d) (tkH c d)) 4 = joinL a b c d ∧ hullH (four (tkL a b) (tkH a b) (tkL c d) (tkH c d)) 4 = joinH a b c d := by
  have e1 := noneS_no h1
  have e2 := noneS_no h2
  unfold hullL hullH joinL joinH
  simp only [h1, h2, Bool.false_eq_true, if_false, mnF, mxF, four]
  rcases of_cases (min (min (min (tkL a b) (tkH a b)) (tkL c d)) (tkH c d)) (max (max (max (tkL a b) (tkH a b)) (tkL c d)) (tkH c d)) with h | h <;> omega

end Go.Proofs.YtlkbapcienjdcaaDoor.Sp

/- The contract of Narrow. -/
namespace Go.Proofs.YtlkbapcienjdcaaDoor.Sp
open Go.RowKit
attribute [local go_sem ↓] Go.wp_at_zero Go.wp_at_succ eq24 neq24 eqg24

theorem Boxes.drewN {w wx : World} {a b c d x y : Int} (h : Boxes w wx a b c d x y) (n : Nat) : Boxes w (wx.drewN n) a b c d x y := ⟨h.1, h.2.1, h.2.2.1, below_drewN h.2.2.2 n⟩

end Go.Proofs.YtlkbapcienjdcaaDoor.Sp

/- The contract of Widen. -/
namespace Go.Proofs.YtlkbapcienjdcaaDoor.Sp
open Go.RowKit
attribute [local go_sem ↓] Go.wp_at_zero Go.wp_at_succ eq24 neq24 eqg24

theorem post_span {fn : Func} {l h : Int} {w0 : World} {a : Act} {w : World} (hr : (results fn a.tmps).run Tryd.prog w = .ok (.agg #[.int .i64 l, .int .i64 h]) w) (hd : a.defers = []) (hb : Below w0.heap.size w0 w) : bodyPost Tryd.prog fn (RetSpan l h w0) .ret a w := bodyPost_ret hr hd ⟨rfl, hb⟩

set_option maxHeartbeats 1600000 in
theorem widen_in (a b c d : Int) (A : Option Addr) (m cap : Nat) (w : World) (hl : leqS (tkL c d) (tkH c d) (tkL a b) (tkH a b) = true) : Calls Tryd.prog 76 #[.agg #[.int .i64 a, .int .i64 b], .agg #[.int .i64 c, .int .i64 d], .slice A m cap] w (RetSpan (tkL a b) (tkH a b) w) := by
  go_enter Tryd.func76, Tryd.ntmps76
  go_upto_region 1 with fail
  go_cut [] (fun wx => Boxes w wx (tkL a b) (tkH a b) (tkL c d) (tkH c d) 0 0)
  case first =>
    go_region_with (first | (go_at_call 62; ((with_reducible refine (taken_any _ _ _).mono ?_); rintro e w1 ⟨rfl, hb1⟩); obtain ⟨hc, hf⟩ := bcell hb1; obtain ⟨z0, z1, z2⟩ := three_sz (n := w.heap.size) hb1 (by first | omega | (simp; omega) | (simp; done))))
    all_goals go_wp2_with fail
    all_goals go_meet
    all_goals exact boxes_taken (by assumption) (by assumption) _ _ _ _
  case rest =>
    have HX := Lib.hid hcut
    obtain ⟨⟨z0, p0, p1, f0, f1⟩, ⟨z1, q0, q1, g0, g1⟩, ⟨z2, r0, r1, e0, e1⟩, -⟩ := hcut
    go_wp2_with (first | (go_at_call 82; ((with_reducible refine (leq_any _ _ _ _ _).mono ?_); rintro e w1 ⟨rfl, hb1⟩); have HX1 := Lib.hid (HX.out.below hb1); clear z0 p0 p1 f0 f1 z1 q0 q1 g0 g1 z2 r0 r1 e0 e1; obtain ⟨⟨z0, p0, p1, f0, f1⟩, ⟨z1, q0, q1, g0, g1⟩, ⟨z2, r0, r1, e0, e1⟩, -⟩ := HX1.out))
    refine bodyPost_ret (v := .agg #[.int .i64 (tkL a b), .int .i64 (tkH a b)]) (by simp [results, Tryd.results76, go_sem, r0, r1]) rfl ⟨rfl, ?_⟩
    exact HX1.out.out _ _

set_option maxHeartbeats 1600000 in
theorem widen_none (a b c d : Int) (A : Option Addr) (m cap : Nat) (w : World) (hl : leqS (tkL c d) (tkH c d) (tkL a b) (tkH a b) = false) (hn : sameB (tkL a b) (tkH a b) 1 0 = true) : Calls Tryd.prog 76 #[.agg #[.int .i64 a, .int .i64 b], .agg #[.int .i64 c, .int .i64 d], .slice A m cap] w (RetSpan (tkL c d) (tkH c d) w) := by
  go_enter Tryd.func76, Tryd.ntmps76
  go_upto_region 1 with fail
  go_cut [] (fun wx => Boxes w wx (tkL a b) (tkH a b) (tkL c d) (tkH c d) 0 0)
  case first =>
    go_region_with (first | (go_at_call 62; ((with_reducible refine (taken_any _ _ _).mono ?_); rintro e w1 ⟨rfl, hb1⟩); obtain ⟨hc, hf⟩ := bcell hb1; obtain ⟨z0, z1, z2⟩ := three_sz (n := w.heap.size) hb1 (by first | omega | (simp; omega) | (simp; done))))
    all_goals go_wp2_with fail
    all_goals go_meet
    all_goals exact boxes_taken (by assumption) (by assumption) _ _ _ _
  case rest =>
    have HX := Lib.hid hcut
    obtain ⟨⟨z0, p0, p1, f0, f1⟩, ⟨z1, q0, q1, g0, g1⟩, ⟨z2, r0, r1, e0, e1⟩, -⟩ := hcut
    go_wp2_with (first | (go_at_call 82; ((with_reducible refine (leq_any _ _ _ _ _).mono ?_); rintro e w1 ⟨rfl, hb1⟩); have HX1 := Lib.hid (HX.out.below hb1); clear z0 p0 p1 f0 f1 z1 q0 q1 g0 g1 z2 r0 r1 e0 e1; obtain ⟨⟨z0, p0, p1, f0, f1⟩, ⟨z1, q0, q1, g0, g1⟩, ⟨z2, r0, r1, e0, e1⟩, -⟩ := HX1.out))
    go_region_held3 (fun w' => w.heap.size + 1 < w'.heap.size ∧ w'.cell? ⟨w.heap.size, 0, none⟩ = some (.int .i64 (tkL a b)) ∧ w'.cell? ⟨w.heap.size, 1, none⟩ = some (.int .i64 (tkH a b)) ∧ w'.cell? ⟨w.heap.size + 1, 0, none⟩ = some (.int .i64 (tkL c d)) ∧ w'.cell? ⟨w.heap.size + 1, 1, none⟩ = some (.int .i64 (tkH c d))) (first | (exact keep_two hb2 (by assumption)) | go_keep)
      (first | (go_at_call 75; ((with_reducible refine (empty_any _).mono ?_); rintro e w2 ⟨rfl, hb2⟩)))
    have HX2 := Lib.hid (HX1.out.drew.below hb2)
    clear z0 p0 p1 f0 f1 z1 q0 q1 g0 g1 z2 r0 r1 e0 e1
    obtain ⟨⟨z0, p0, p1, f0, f1⟩, ⟨z1, q0, q1, g0, g1⟩, ⟨z2, r0, r1, e0, e1⟩, -⟩ := HX2.out
    go_wp2_with fail
    refine bodyPost_ret (v := .agg #[.int .i64 (tkL c d), .int .i64 (tkH c d)]) (by simp [results, Tryd.results76, go_sem, r0, r1]) rfl ⟨rfl, ?_⟩
    exact HX2.out.out _ _

set_option maxHeartbeats 1600000 in
theorem widen_both (f : Nat → Int) (a b c d : Int) (A : Option Addr) (m cap : Nat) (w : World) (hz : m ≤ 9223372036854775807) (hI : Ints w A m f) (hl : leqS (tkL c d) (tkH c d) (tkL a b) (tkH a b) = false) (hn : sameB (tkL a b) (tkH a b) 1 0 = false) : Calls Tryd.prog 76 #[.agg #[.int .i64 a, .int .i64 b], .agg #[.int .i64 c, .int .i64 d], .slice A m cap] w (RetSpan (wloZ f m a b c d) (whiZ f m a b c d) w) := by
  have hlo : (tkL c d < tkL a b ∧ wloZ f m a b c d = dnF f (tkL c d) m) ∨ (¬ tkL c d < tkL a b ∧ wloZ f m a b c d = tkL a b) := by
    unfold wloZ; by_cases h : tkL c d < tkL a b <;> simp [h]
  have hhi : (tkH a b < tkH c d ∧ whiZ f m a b c d = upF f (tkH c d) m) ∨ (¬ tkH a b < tkH c d ∧ whiZ f m a b c d = tkH a b) := by
    unfold whiZ; by_cases h : tkH a b < tkH c d <;> simp [h]
  obtain ⟨lo, hlo'⟩ : ∃ lo, lo = wloZ f m a b c d := ⟨_, rfl⟩
  obtain ⟨hi, hhi'⟩ : ∃ hi, hi = whiZ f m a b c d := ⟨_, rfl⟩
  rw [← hlo', ← hhi']
  rw [← hlo'] at hlo
  rw [← hhi'] at hhi
  clear hlo' hhi'
  have HI := Lib.hid hI
  clear hI
  rcases hlo with ⟨t1, rfl⟩ | ⟨t1, rfl⟩ <;> rcases hhi with ⟨t2, rfl⟩ | ⟨t2, rfl⟩
  all_goals
    go_enter Tryd.func76, Tryd.ntmps76
    go_upto_region 1 with fail
    go_cut [] (fun wx => Boxes w wx (tkL a b) (tkH a b) (tkL c d) (tkH c d) 0 0)
    case first =>
      go_region_with (first | (go_at_call 62; ((with_reducible refine (taken_any _ _ _).mono ?_); rintro e w1 ⟨rfl, hb1⟩); obtain ⟨hc, hf⟩ := bcell hb1; obtain ⟨z0, z1, z2⟩ := three_sz (n := w.heap.size) hb1 (by first | omega | (simp; omega) | (simp; done))))
      all_goals go_wp2_with fail
      all_goals go_meet
      all_goals exact boxes_taken (by assumption) (by assumption) _ _ _ _
    case rest =>
      have HX := Lib.hid hcut
      obtain ⟨⟨z0, p0, p1, f0, f1⟩, ⟨z1, q0, q1, g0, g1⟩, ⟨z2, r0, r1, e0, e1⟩, -⟩ := hcut
      go_wp2_with (first | (go_at_call 82; ((with_reducible refine (leq_any _ _ _ _ _).mono ?_); rintro e w1 ⟨rfl, hb1⟩); have HX1 := Lib.hid (HX.out.below hb1); clear z0 p0 p1 f0 f1 z1 q0 q1 g0 g1 z2 r0 r1 e0 e1; obtain ⟨⟨z0, p0, p1, f0, f1⟩, ⟨z1, q0, q1, g0, g1⟩, ⟨z2, r0, r1, e0, e1⟩, -⟩ := HX1.out))
      go_region_held3 (fun w' => w.heap.size + 1 < w'.heap.size ∧ w'.cell? ⟨w.heap.size, 0, none⟩ = some (.int .i64 (tkL a b)) ∧ w'.cell? ⟨w.heap.size, 1, none⟩ = some (.int .i64 (tkH a b)) ∧ w'.cell? ⟨w.heap.size + 1, 0, none⟩ = some (.int .i64 (tkL c d)) ∧ w'.cell? ⟨w.heap.size + 1, 1, none⟩ = some (.int .i64 (tkH c d))) (first | (exact keep_two hb2 (by assumption)) | go_keep)
        (first | (go_at_call 75; ((with_reducible refine (empty_any _).mono ?_); rintro e w2 ⟨rfl, hb2⟩)))
      have HX2 := Lib.hid (HX1.out.drew.below hb2)
      clear z0 p0 p1 f0 f1 z1 q0 q1 g0 g1 z2 r0 r1 e0 e1
      obtain ⟨⟨z0, p0, p1, f0, f1⟩, ⟨z1, q0, q1, g0, g1⟩, ⟨z2, r0, r1, e0, e1⟩, -⟩ := HX2.out
      have HJ := Lib.hid (HI.out.below HX2.out.2.2.2)
      have HK := Lib.hid (show ∀ v, Ints (w2.setCell ⟨w.heap.size, 0, none⟩ v) A m f from fun v => HI.out.below (HX2.out.2.2.2.setCell (by simp) _))
      go_wp2_with (first
        | (go_at_call 83; ((with_reducible refine (down_any f _ A m cap _ hz HJ.out).mono ?_); rintro e w' ⟨rfl, rfl⟩))
        | (go_at_call 84; ((with_reducible refine (up_any f _ A m cap _ hz (by first | exact HJ.out | exact HK.out _)).mono ?_); rintro e w' ⟨rfl, rfl⟩)))
      refine post_span ?_ rfl ?_
      · simp [results, Tryd.results76, go_sem, r0, r1]
      first
        | exact HX2.out.out _ _
        | exact ((HX2.out.2.2.2.setCell (by simp) _).setCell (by simp; omega) _).setCell (by simp; omega) _
        | exact (((HX2.out.2.2.2.setCell (by simp) _).setCell (by simp) _).setCell (by simp; omega) _).setCell (by simp; omega) _

theorem widen_any (f : Nat → Int) (a b c d : Int) (A : Option Addr) (m cap : Nat) (w : World) (hz : m ≤ 9223372036854775807) (hI : Ints w A m f) : Calls Tryd.prog 76 #[.agg #[.int .i64 a, .int .i64 b], .agg #[.int .i64 c, .int .i64 d], .slice A m cap] w (RetSpan (widL f m a b c d) (widH f m a b c d) w) := by
  unfold widL widH
  have e := leqS_tk c d a b
  cases hl : leqS c d a b
  · rw [hl] at e
    cases hn : noneS a b
    · simp only [Bool.false_eq_true, if_false]
      exact widen_both f a b c d A m cap w hz hI e hn
    · simp only [Bool.false_eq_true, if_false, if_true]
      exact widen_none a b c d A m cap w e hn
  · rw [hl] at e
    simp only [if_true]
    exact widen_in a b c d A m cap w e
end Go.Proofs.YtlkbapcienjdcaaDoor.Sp
