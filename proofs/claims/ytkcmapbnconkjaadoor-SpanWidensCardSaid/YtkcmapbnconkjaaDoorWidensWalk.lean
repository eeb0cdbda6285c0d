/- The walk of SpanWidens: it returns true at any two spans, and any steps. -/
import Derived.Test.YtkcmapbnconkjaaDoorLawsWalk
import Derived.Test.YtkcmapbnconkjaaDoorWidensNums
import Derived.Test.YtkcmapbnconkjaaDoorRefWiden
namespace Go.Proofs.YtkcmapbnconkjaaDoor
open Go.RowKit
attribute [local go_sem ↓] Go.wp_at_zero Go.wp_at_succ eq24 eq23 neq24 eqg24 eqg23

theorem keep_six {w W w1 : World} (hb : Below W.heap.size W w1) {f : Nat → Int} {A : Option Addr} {k n0 n1 j m g h : Nat} {x0 x1 x2 x3 x4 x5 x6 x7 x8 x9 x10 x11 : Option Value} (x : (Below w.heap.size w W ∧ Ints W A k f ∧ n0 < W.heap.size ∧ n1 < W.heap.size ∧ j < W.heap.size ∧ m < W.heap.size ∧ g < W.heap.size ∧ h < W.heap.size ∧ W.cell? ⟨n0, 0, none⟩ = x0 ∧ W.cell? ⟨n0, 1, none⟩ = x1 ∧ W.cell? ⟨n1, 0, none⟩ = x2 ∧ W.cell? ⟨n1, 1, none⟩ = x3 ∧ W.cell? ⟨j, 0, none⟩ = x4 ∧ W.cell? ⟨j, 1, none⟩ = x5 ∧ W.cell? ⟨m, 0, none⟩ = x6 ∧ W.cell? ⟨m, 1, none⟩ = x7 ∧ W.cell? ⟨g, 0, none⟩ = x8 ∧ W.cell? ⟨g, 1, none⟩ = x9 ∧ W.cell? ⟨h, 0, none⟩ = x10 ∧ W.cell? ⟨h, 1, none⟩ = x11)) : (Below w.heap.size w w1 ∧ Ints w1 A k f ∧ n0 < w1.heap.size ∧ n1 < w1.heap.size ∧ j < w1.heap.size ∧ m < w1.heap.size ∧ g < w1.heap.size ∧ h < w1.heap.size ∧ w1.cell? ⟨n0, 0, none⟩ = x0 ∧ w1.cell? ⟨n0, 1, none⟩ = x1 ∧ w1.cell? ⟨n1, 0, none⟩ = x2 ∧ w1.cell? ⟨n1, 1, none⟩ = x3 ∧ w1.cell? ⟨j, 0, none⟩ = x4 ∧ w1.cell? ⟨j, 1, none⟩ = x5 ∧ w1.cell? ⟨m, 0, none⟩ = x6 ∧ w1.cell? ⟨m, 1, none⟩ = x7 ∧ w1.cell? ⟨g, 0, none⟩ = x8 ∧ w1.cell? ⟨g, 1, none⟩ = x9 ∧ w1.cell? ⟨h, 0, none⟩ = x10 ∧ w1.cell? ⟨h, 1, none⟩ = x11) := by
  obtain ⟨xb, xi, z0, z1, z2, z3, z4, z5, y0, y1, y2, y3, y4, y5, y6, y7, y8, y9, y10, y11⟩ := x
  obtain ⟨hc, -⟩ := bcell hb
  have hs := hb.size
  refine ⟨below_trans xb hb, xi.below hb, by omega, by omega, by omega, by omega, by omega, by omega, ?_, ?_, ?_, ?_, ?_, ?_, ?_, ?_, ?_, ?_, ?_, ?_⟩
  · rw [hc _ _ z0]; exact y0
  · rw [hc _ _ z0]; exact y1
  · rw [hc _ _ z1]; exact y2
  · rw [hc _ _ z1]; exact y3
  · rw [hc _ _ z2]; exact y4
  · rw [hc _ _ z2]; exact y5
  · rw [hc _ _ z3]; exact y6
  · rw [hc _ _ z3]; exact y7
  · rw [hc _ _ z4]; exact y8
  · rw [hc _ _ z4]; exact y9
  · rw [hc _ _ z5]; exact y10
  · rw [hc _ _ z5]; exact y11
theorem six_drew {w W : World} {f : Nat → Int} {A : Option Addr} {k n0 n1 j m g h : Nat} {x0 x1 x2 x3 x4 x5 x6 x7 x8 x9 x10 x11 : Option Value} (x : (Below w.heap.size w W ∧ Ints W A k f ∧ n0 < W.heap.size ∧ n1 < W.heap.size ∧ j < W.heap.size ∧ m < W.heap.size ∧ g < W.heap.size ∧ h < W.heap.size ∧ W.cell? ⟨n0, 0, none⟩ = x0 ∧ W.cell? ⟨n0, 1, none⟩ = x1 ∧ W.cell? ⟨n1, 0, none⟩ = x2 ∧ W.cell? ⟨n1, 1, none⟩ = x3 ∧ W.cell? ⟨j, 0, none⟩ = x4 ∧ W.cell? ⟨j, 1, none⟩ = x5 ∧ W.cell? ⟨m, 0, none⟩ = x6 ∧ W.cell? ⟨m, 1, none⟩ = x7 ∧ W.cell? ⟨g, 0, none⟩ = x8 ∧ W.cell? ⟨g, 1, none⟩ = x9 ∧ W.cell? ⟨h, 0, none⟩ = x10 ∧ W.cell? ⟨h, 1, none⟩ = x11)) : (Below w.heap.size w W.drew ∧ Ints W.drew A k f ∧ n0 < W.drew.heap.size ∧ n1 < W.drew.heap.size ∧ j < W.drew.heap.size ∧ m < W.drew.heap.size ∧ g < W.drew.heap.size ∧ h < W.drew.heap.size ∧ W.drew.cell? ⟨n0, 0, none⟩ = x0 ∧ W.drew.cell? ⟨n0, 1, none⟩ = x1 ∧ W.drew.cell? ⟨n1, 0, none⟩ = x2 ∧ W.drew.cell? ⟨n1, 1, none⟩ = x3 ∧ W.drew.cell? ⟨j, 0, none⟩ = x4 ∧ W.drew.cell? ⟨j, 1, none⟩ = x5 ∧ W.drew.cell? ⟨m, 0, none⟩ = x6 ∧ W.drew.cell? ⟨m, 1, none⟩ = x7 ∧ W.drew.cell? ⟨g, 0, none⟩ = x8 ∧ W.drew.cell? ⟨g, 1, none⟩ = x9 ∧ W.drew.cell? ⟨h, 0, none⟩ = x10 ∧ W.drew.cell? ⟨h, 1, none⟩ = x11) := ⟨x.1.drew, x.2⟩

/-- What stands behind 'x, y := ..': both spans as they came, and as the layer's. -/
def WDuo (w wx : World) (g h : Nat) (a b c d : Int) : Prop := Box wx w.heap.size a b ∧ Box wx (w.heap.size + 1) c d ∧ Box wx g a b ∧ Box wx h c d ∧ Below w.heap.size w wx
def WDuoCut (w : World) (a b c d : Int) (s t : Value) (wx : World) : Prop := ∃ g h : Nat, s = .pointer (some ⟨g, 0, none⟩) ∧ t = .pointer (some ⟨h, 0, none⟩) ∧ WDuo w wx g h a b c d
/-- What stands behind 'w, n := ..': two blocks more; what was there is as it was. -/
def WTwoCut (wc : World) (jl jh ml mh : Int) (s t : Value) (wx : World) : Prop := ∃ j m : Nat, s = .pointer (some ⟨j, 0, none⟩) ∧ t = .pointer (some ⟨m, 0, none⟩) ∧ Below wc.heap.size wc wx ∧ j < wx.heap.size ∧ m < wx.heap.size ∧ wx.cell? ⟨j, 0, none⟩ = some (.int .i64 jl) ∧ wx.cell? ⟨j, 1, none⟩ = some (.int .i64 jh) ∧ wx.cell? ⟨m, 0, none⟩ = some (.int .i64 ml) ∧ wx.cell? ⟨m, 1, none⟩ = some (.int .i64 mh)

/-- The steps, and both spans, as the second statement reads them. -/
theorem wkeep {W w1 : World} (hb : Below W.heap.size W w1) {f : Nat → Int} {A : Option Addr} {k g h : Nat} {e i j l : Option Value}
    (x : Ints W A k f ∧ g < W.heap.size ∧ h < W.heap.size ∧ W.cell? ⟨g, 0, none⟩ = e ∧ W.cell? ⟨g, 1, none⟩ = i ∧ W.cell? ⟨h, 0, none⟩ = j ∧ W.cell? ⟨h, 1, none⟩ = l) :
    Ints w1 A k f ∧ g < w1.heap.size ∧ h < w1.heap.size ∧ w1.cell? ⟨g, 0, none⟩ = e ∧ w1.cell? ⟨g, 1, none⟩ = i ∧ w1.cell? ⟨h, 0, none⟩ = j ∧ w1.cell? ⟨h, 1, none⟩ = l := ⟨x.1.below hb, keep_duo hb x.2⟩
theorem walloc {W : World} {o : Obj} {f : Nat → Int} {A : Option Addr} {k g h : Nat} {e i j l : Option Value}
    (x : Ints W A k f ∧ g < W.heap.size ∧ h < W.heap.size ∧ W.cell? ⟨g, 0, none⟩ = e ∧ W.cell? ⟨g, 1, none⟩ = i ∧ W.cell? ⟨h, 0, none⟩ = j ∧ W.cell? ⟨h, 1, none⟩ = l) :
    Ints (W.alloc o) A k f ∧ g < (W.alloc o).heap.size ∧ h < (W.alloc o).heap.size ∧ (W.alloc o).cell? ⟨g, 0, none⟩ = e ∧ (W.alloc o).cell? ⟨g, 1, none⟩ = i ∧ (W.alloc o).cell? ⟨h, 0, none⟩ = j ∧ (W.alloc o).cell? ⟨h, 1, none⟩ = l := wkeep ((Below.refl _ _).alloc (Nat.le_refl _) _) x
theorem wdrew {W : World} {f : Nat → Int} {A : Option Addr} {k g h : Nat} {e i j l : Option Value}
    (x : Ints W A k f ∧ g < W.heap.size ∧ h < W.heap.size ∧ W.cell? ⟨g, 0, none⟩ = e ∧ W.cell? ⟨g, 1, none⟩ = i ∧ W.cell? ⟨h, 0, none⟩ = j ∧ W.cell? ⟨h, 1, none⟩ = l) :
    Ints W.drew A k f ∧ g < W.drew.heap.size ∧ h < W.drew.heap.size ∧ W.drew.cell? ⟨g, 0, none⟩ = e ∧ W.drew.cell? ⟨g, 1, none⟩ = i ∧ W.drew.cell? ⟨h, 0, none⟩ = j ∧ W.drew.cell? ⟨h, 1, none⟩ = l := x
/-- A store into a block beyond n leaves what lies below it. -/
theorem wset {wc W : World} {p o : Nat} {v : Value} (hp : wc.heap.size ≤ p) {f : Nat → Int} {A : Option Addr} {k g h : Nat} {e i j l : Option Value} (hg : g < wc.heap.size) (hh : h < wc.heap.size) (hA : 0 < k → ∃ b off : Nat, A = some ⟨b, off, none⟩ ∧ b < wc.heap.size)
    (x : Ints W A k f ∧ g < W.heap.size ∧ h < W.heap.size ∧ W.cell? ⟨g, 0, none⟩ = e ∧ W.cell? ⟨g, 1, none⟩ = i ∧ W.cell? ⟨h, 0, none⟩ = j ∧ W.cell? ⟨h, 1, none⟩ = l) :
    Ints (W.setCell ⟨p, o, none⟩ v) A k f ∧ g < (W.setCell ⟨p, o, none⟩ v).heap.size ∧ h < (W.setCell ⟨p, o, none⟩ v).heap.size ∧ (W.setCell ⟨p, o, none⟩ v).cell? ⟨g, 0, none⟩ = e ∧ (W.setCell ⟨p, o, none⟩ v).cell? ⟨g, 1, none⟩ = i ∧ (W.setCell ⟨p, o, none⟩ v).cell? ⟨h, 0, none⟩ = j ∧ (W.setCell ⟨p, o, none⟩ v).cell? ⟨h, 1, none⟩ = l := by
  refine ⟨fun hk => ?_, duo_set (by omega) (by omega) x.2⟩
  obtain ⟨b, off, e1, hb, hc⟩ := x.1 hk
  obtain ⟨b', off', e2, hb'⟩ := hA hk
  rw [e1] at e2
  cases e2
  have hne : b ≠ p := by omega
  refine ⟨b, off, e1, by go_simp, fun q hq => ?_⟩
  have := hc q hq
  go_simp

set_option maxHeartbeats 1600000 in
theorem widens_much (a b c d : Int) (A : Option Addr) (k cap : Nat) (w : World) (hz : 50 < k) (hk : k ≤ 9223372036854775807) : Calls Tryd.prog 6 #[.agg #[.int .i64 a, .int .i64 b], .agg #[.int .i64 c, .int .i64 d], .slice A k cap] w (RetTrue w) := by
  go_enter Tryd.func6, Tryd.ntmps6
  go_wp2_with (first | (go_at_call 9; ((with_reducible refine (alive_any _).mono ?_); rintro e w1 ⟨rfl, hb1⟩)))
  go_ret
  exact ⟨rfl, below_trans (((Below.refl _ _).alloc (Nat.le_refl _) _).alloc (by simp) _) hb1⟩

set_option maxRecDepth 100000 in
set_option maxHeartbeats 6400000 in
theorem widens_few (f : Nat → Int) (a b c d : Int) (A : Option Addr) (k cap : Nat) (w : World) (hz : k ≤ 50) (hI : Ints w A k f) : Calls Tryd.prog 6 #[.agg #[.int .i64 a, .int .i64 b], .agg #[.int .i64 c, .int .i64 d], .slice A k cap] w (RetTrue w) := by
  have HI := Lib.hid hI
  have hz' : ¬ 50 < k := by omega
  clear hI
  go_enter Tryd.func6, Tryd.ntmps6
  go_upto_region 3 with fail
  go_cut [7, 8] (fun s t wx => WDuoCut w a b c d s t wx)
  case first =>
    go_region
    all_goals go_wp2_with fail
    all_goals go_meet
    all_goals
      refine ⟨_, _, rfl, rfl, ?_, ?_, ?_, ?_, ?_⟩
      · refine sbox_drew ?_
        repeat (first | (refine sbox_here ?_; (simp; done)) | refine sbox_past ?_ _)
      · refine sbox_drew ?_
        repeat (first | (refine sbox_here ?_; (simp; done)) | refine sbox_past ?_ _)
      · refine sbox_drew ?_
        repeat (first | (refine sbox_here ?_; (simp; done)) | refine sbox_past ?_ _)
      · refine sbox_drew ?_
        repeat (first | (refine sbox_here ?_; (simp; done)) | refine sbox_past ?_ _)
      · repeat (first | exact Below.refl _ _ | refine Below.drew ?_ | refine Below.alloc ?_ (by simp <;> omega) _)
  case rest =>
    obtain ⟨g, h, rfl, rfl, hq⟩ := hcut
    obtain ⟨wo, rfl⟩ : ∃ wo : World, wo = wc := ⟨_, rfl⟩
    have HQ := Lib.hid hq
    have HIc := Lib.hid (HI.out.below hq.2.2.2.2)
    obtain ⟨-, -, ⟨zg, p0, p1, f0, f1⟩, ⟨zh, q0, q1, f2, f3⟩, hB⟩ := hq
    have ga : g < wo.heap.size + 1 := by omega
    have gb : g < wo.heap.size + 1 + 1 := by omega
    have ha : h < wo.heap.size + 1 := by omega
    have hb : h < wo.heap.size + 1 + 1 := by omega
    have HA : Hid (0 < k → ∃ b off : Nat, A = some ⟨b, off, none⟩ ∧ b < wo.heap.size) := Lib.hid (fun hk => by obtain ⟨b, off, e, hlt, -⟩ := HIc.out hk; exact ⟨b, off, e, hlt⟩)
    have K0 : Hid (Ints wo A k f ∧ g < wo.heap.size ∧ h < wo.heap.size ∧ wo.cell? ⟨g, 0, none⟩ = some (.int .i64 a) ∧ wo.cell? ⟨g, 1, none⟩ = some (.int .i64 b) ∧ wo.cell? ⟨h, 0, none⟩ = some (.int .i64 c) ∧ wo.cell? ⟨h, 1, none⟩ = some (.int .i64 d)) := Lib.hid ⟨HIc.out, zg, zh, p0, p1, q0, q1⟩
    go_upto_region 4 with fail
    go_cut [9, 10] (fun s t wx => WTwoCut wo (widL f k a b c d) (widH f k a b c d) (narL a b c d) (narH a b c d) s t wx)
    case first =>
      go_region_held3 (fun w' => Ints w' A k f ∧ g < w'.heap.size ∧ h < w'.heap.size ∧ w'.cell? ⟨g, 0, none⟩ = some (.int .i64 a) ∧ w'.cell? ⟨g, 1, none⟩ = some (.int .i64 b) ∧ w'.cell? ⟨h, 0, none⟩ = some (.int .i64 c) ∧ w'.cell? ⟨h, 1, none⟩ = some (.int .i64 d)) (repeat (first | (with_reducible assumption) | (with_reducible exact K0.out) | (with_reducible refine wdrew ?_) | (with_reducible refine walloc ?_) | (with_reducible refine wkeep hb2 ?_) | (with_reducible refine wkeep hb1 ?_) | ((with_reducible refine wset (wc := wo) ?_ zg zh HA.out ?_); (omega)))) (first
        | (go_at_call 18; ((with_reducible refine (widen_any f _ _ _ _ A k cap _ (by omega) (And.left (by assumption))).mono ?_); rintro e w1 ⟨rfl, hb1⟩); obtain ⟨hc1, hf1⟩ := bcell hb1; have hs1 := hb1.size; (try simp at hs1); have zg1 : g < w1.heap.size := (by omega); have zh1 : h < w1.heap.size := (by omega); have zg1a : g < w1.heap.size + 1 := (by omega); have zh1a : h < w1.heap.size + 1 := (by omega); have zg1b : g < w1.heap.size + 1 + 1 := (by omega); have zh1b : h < w1.heap.size + 1 + 1 := (by omega); have jA : wo.heap.size < w1.heap.size + 1 := (by omega); have jB : wo.heap.size < w1.heap.size + 1 + 1 := (by omega); (try have l1 := Nat.lt_of_succ_le hs1); (try have m1 := Nat.lt_of_succ_lt l1))
        | (go_at_call 19; ((with_reducible refine (narrow_any _ _ _ _ _).mono ?_); rintro e w2 ⟨rfl, hb2⟩); obtain ⟨hc2, hf2⟩ := bcell hb2; have hs2 := hb2.size; (try simp at hs2); have zg2 : g < w2.heap.size := (by omega); have zh2 : h < w2.heap.size := (by omega); (try have l2 := Nat.lt_of_succ_le hs2); (try have m2 := Nat.lt_of_succ_lt l2); (try have l3 := Nat.lt_of_lt_of_le l1 hs2); (try have l4 := Nat.lt_trans l1 l2)))
      all_goals go_wp2_with fail
      all_goals go_meet
      all_goals
        refine ⟨_, _, rfl, rfl, ?_, ?_, ?_, ?_, ?_, ?_, ?_⟩
        case' refine_1 => repeat (first | (with_reducible exact Below.refl _ _) | (with_reducible refine Below.drew ?_) | ((with_reducible refine Below.alloc ?_ ?_ _); rotate_left; (focus (first | (simp; done) | (simp; omega) | omega))) | ((with_reducible refine Below.setCell ?_ ?_ _); rotate_left; (focus (first | (simp; done) | (simp; omega) | omega))) | (with_reducible refine below_trans ?_ hb2) | (with_reducible refine below_trans ?_ hb1))
        all_goals first | (go_simp; done) | (simp; omega) | skip
        all_goals
          have l5 : w1.heap.size < w1.heap.size + 1 + 1 := by omega
          have l6 : wo.heap.size < wo.heap.size + 1 + 1 := by omega
          go_simp
    case rest =>
      obtain ⟨j, m, rfl, rfl, hBx, zj, zm, j0, j1, m0, m1⟩ := hcut
      have HK : Hid ((fun w' => Below w.heap.size w w' ∧ Ints w' A k f ∧ w.heap.size < w'.heap.size ∧ w.heap.size + 1 < w'.heap.size ∧ j < w'.heap.size ∧ m < w'.heap.size ∧ g < w'.heap.size ∧ h < w'.heap.size ∧ w'.cell? ⟨w.heap.size, 0, none⟩ = some (.int .i64 a) ∧ w'.cell? ⟨w.heap.size, 1, none⟩ = some (.int .i64 b) ∧ w'.cell? ⟨w.heap.size + 1, 0, none⟩ = some (.int .i64 c) ∧ w'.cell? ⟨w.heap.size + 1, 1, none⟩ = some (.int .i64 d) ∧ w'.cell? ⟨j, 0, none⟩ = some (.int .i64 (widL f k a b c d)) ∧ w'.cell? ⟨j, 1, none⟩ = some (.int .i64 (widH f k a b c d)) ∧ w'.cell? ⟨m, 0, none⟩ = some (.int .i64 (narL a b c d)) ∧ w'.cell? ⟨m, 1, none⟩ = some (.int .i64 (narH a b c d)) ∧ w'.cell? ⟨g, 0, none⟩ = some (.int .i64 a) ∧ w'.cell? ⟨g, 1, none⟩ = some (.int .i64 b) ∧ w'.cell? ⟨h, 0, none⟩ = some (.int .i64 c) ∧ w'.cell? ⟨h, 1, none⟩ = some (.int .i64 d)) wc) := Lib.hid ⟨below_trans hB hBx, HIc.out.below hBx, (HQ.out.1.below hBx).1, (HQ.out.2.1.below hBx).1, zj, zm, (HQ.out.2.2.1.below hBx).1, (HQ.out.2.2.2.1.below hBx).1, (HQ.out.1.below hBx).2.1, (HQ.out.1.below hBx).2.2.1, (HQ.out.2.1.below hBx).2.1, (HQ.out.2.1.below hBx).2.2.1, j0, j1, m0, m1, (HQ.out.2.2.1.below hBx).2.1, (HQ.out.2.2.1.below hBx).2.2.1, (HQ.out.2.2.2.1.below hBx).2.1, (HQ.out.2.2.2.1.below hBx).2.2.1⟩
      clear hBx zj zm j0 j1 m0 m1 HQ HIc zg p0 p1 f0 f1 zh q0 q1 f2 f3 hB ga gb ha hb HA K0 HI hz'
      have k1 : sameB (widL f k a b c d) (widH f k a b c d) (widL f k a b c d) (widH f k a b c d) = true := (sameB_iff _ _ _ _).2 ⟨rfl, rfl⟩
      have k2 : sameB (narL a b c d) (narH a b c d) (narL a b c d) (narH a b c d) = true := (sameB_iff _ _ _ _).2 ⟨rfl, rfl⟩
      obtain ⟨-, k3, k4⟩ := wid_forms f k a b c d
      have k5 := nar_meet a b c d
      go_wp2_with fail
      cases hp : leqS c d a b
      · refine wp_region_held_drew (S := (fun w' => Below w.heap.size w w' ∧ Ints w' A k f ∧ w.heap.size < w'.heap.size ∧ w.heap.size + 1 < w'.heap.size ∧ j < w'.heap.size ∧ m < w'.heap.size ∧ g < w'.heap.size ∧ h < w'.heap.size ∧ w'.cell? ⟨w.heap.size, 0, none⟩ = some (.int .i64 a) ∧ w'.cell? ⟨w.heap.size, 1, none⟩ = some (.int .i64 b) ∧ w'.cell? ⟨w.heap.size + 1, 0, none⟩ = some (.int .i64 c) ∧ w'.cell? ⟨w.heap.size + 1, 1, none⟩ = some (.int .i64 d) ∧ w'.cell? ⟨j, 0, none⟩ = some (.int .i64 (widL f k a b c d)) ∧ w'.cell? ⟨j, 1, none⟩ = some (.int .i64 (widH f k a b c d)) ∧ w'.cell? ⟨m, 0, none⟩ = some (.int .i64 (narL a b c d)) ∧ w'.cell? ⟨m, 1, none⟩ = some (.int .i64 (narH a b c d)) ∧ w'.cell? ⟨g, 0, none⟩ = some (.int .i64 a) ∧ w'.cell? ⟨g, 1, none⟩ = some (.int .i64 b) ∧ w'.cell? ⟨h, 0, none⟩ = some (.int .i64 c) ∧ w'.cell? ⟨h, 1, none⟩ = some (.int .i64 d))) (by kernel_rfl) (six_drew HK.out) (fun hH0 => ?_)
        clear HK
        refine wpAnyH_ready (rs := [0]) (by kernel_rfl) (by simp) ?_
        refine AllReadyH.cons (o := ⟨some 24, _, _, _, _, _⟩) rfl (fun K hK => ?_) AllReadyH.nil
        go_simp
        refine (alive_any _).mono ?_; rintro e v1 ⟨rfl, hb1⟩
        go_wp2_with fail
        refine hK.out _ _ (keep_six hb1 hH0) (fun hH1 => ?_)
        clear hK K hH0 hb1
        try simp only [Act.put, List.setIfInBounds_toArray, List.set_cons_zero, List.set_cons_succ]
        refine wpAnyH_take (i := 1) (oi := ⟨some 25, _, _, _, _, _⟩) (v := ?_) rfl (by kernel_rfl) (by kernel_rfl) (by kernel_rfl) (fun _ _ _ h => h) (Or.inl ⟨by rfl, ?_⟩) hH1 ?_
        rotate_left
        · intro w hSw
          try dsimp only at hSw
          go_simp
          try with_reducible rfl
        try simp only [Act.put, List.setIfInBounds_toArray, List.set_cons_zero, List.set_cons_succ]
        refine wpAnyH_take (i := 2) (oi := ⟨some 26, _, _, _, _, _⟩) (v := ?_) rfl (by kernel_rfl) (by kernel_rfl) (by kernel_rfl) (fun _ _ _ h => h) (Or.inl ⟨by rfl, ?_⟩) hH1 ?_
        rotate_left
        · intro w hSw
          try dsimp only at hSw
          go_simp
          try with_reducible rfl
        try simp only [Act.put, List.setIfInBounds_toArray, List.set_cons_zero, List.set_cons_succ]
        refine wpAnyH_take (i := 3) (oi := ⟨some 27, _, _, _, _, _⟩) (v := ?_) rfl (by kernel_rfl) (by kernel_rfl) (by kernel_rfl) (fun _ _ _ h => h) (Or.inl ⟨by rfl, ?_⟩) hH1 ?_
        rotate_left
        · intro w hSw
          try dsimp only at hSw
          go_simp
          try with_reducible rfl
        try simp only [Act.put, List.setIfInBounds_toArray, List.set_cons_zero, List.set_cons_succ]
        refine wpAnyH_take (i := 4) (oi := ⟨some 28, _, _, _, _, _⟩) (v := ?_) rfl (by kernel_rfl) (by kernel_rfl) (by kernel_rfl) (fun _ _ _ h => h) (Or.inl ⟨by rfl, ?_⟩) hH1 ?_
        rotate_left
        · intro w hSw
          try dsimp only at hSw
          go_simp
          try with_reducible rfl
        try simp only [Act.put, List.setIfInBounds_toArray, List.set_cons_zero, List.set_cons_succ]
        refine wpAnyH_take (i := 5) (oi := ⟨some 29, _, _, _, _, _⟩) (v := ?_) rfl (by kernel_rfl) (by kernel_rfl) (by kernel_rfl) (fun _ _ _ h => h) (Or.inl ⟨by rfl, ?_⟩) hH1 ?_
        rotate_left
        · intro w hSw
          try dsimp only at hSw
          go_simp
          try with_reducible rfl
        try simp only [Act.put, List.setIfInBounds_toArray, List.set_cons_zero, List.set_cons_succ]
        refine wpAnyH_ready (rs := [6]) (by kernel_rfl) (by simp) ?_
        refine AllReadyH.cons (o := ⟨some 30, _, _, _, _, _⟩) rfl (fun K hK => ?_) AllReadyH.nil
        go_simp
        refine (rwiden_any f a b c d A k cap _ hz hH1.2.1).mono ?_; rintro e v2 ⟨rfl, hb2⟩
        go_wp2_with fail
        refine hK.out _ _ (keep_six hb2 hH1) (fun hH2 => ?_)
        clear hK K hH1 hb2
        try simp only [Act.put, List.setIfInBounds_toArray, List.set_cons_zero, List.set_cons_succ]
        refine wpAnyH_take (i := 7) (oi := ⟨some 31, _, _, _, _, _⟩) (v := ?_) rfl (by kernel_rfl) (by kernel_rfl) (by kernel_rfl) (fun _ _ _ h => h) (Or.inl ⟨by rfl, ?_⟩) hH2 ?_
        rotate_left
        · intro w hSw
          try dsimp only at hSw
          go_simp
          try with_reducible rfl
        try simp only [Act.put, List.setIfInBounds_toArray, List.set_cons_zero, List.set_cons_succ]
        refine wpAnyH_take (i := 8) (oi := ⟨some 32, _, _, _, _, _⟩) (v := ?_) rfl (by kernel_rfl) (by kernel_rfl) (by kernel_rfl) (fun _ _ _ h => h) (Or.inl ⟨by rfl, ?_⟩) hH2 ?_
        rotate_left
        · intro w hSw
          try dsimp only at hSw
          go_simp
          try with_reducible rfl
        try simp only [Act.put, List.setIfInBounds_toArray, List.set_cons_zero, List.set_cons_succ]
        refine wpAnyH_take (i := 9) (oi := ⟨some 33, _, _, _, _, _⟩) (v := ?_) rfl (by kernel_rfl) (by kernel_rfl) (by kernel_rfl) (fun _ _ _ h => h) (Or.inl ⟨by rfl, ?_⟩) hH2 ?_
        rotate_left
        · intro w hSw
          try dsimp only at hSw
          go_simp
          try with_reducible rfl
        try simp only [Act.put, List.setIfInBounds_toArray, List.set_cons_zero, List.set_cons_succ]
        refine wpAnyH_take (i := 10) (oi := ⟨some 34, _, _, _, _, _⟩) (v := ?_) rfl (by kernel_rfl) (by kernel_rfl) (by kernel_rfl) (fun _ _ _ h => h) (Or.inl ⟨by rfl, ?_⟩) hH2 ?_
        rotate_left
        · intro w hSw
          try dsimp only at hSw
          go_simp
          try with_reducible rfl
        try simp only [Act.put, List.setIfInBounds_toArray, List.set_cons_zero, List.set_cons_succ]
        refine wpAnyH_take (i := 11) (oi := ⟨some 35, _, _, _, _, _⟩) (v := ?_) rfl (by kernel_rfl) (by kernel_rfl) (by kernel_rfl) (fun _ _ _ h => h) (Or.inl ⟨by rfl, ?_⟩) hH2 ?_
        rotate_left
        · intro w hSw
          try dsimp only at hSw
          go_simp
          try with_reducible rfl
        try simp only [Act.put, List.setIfInBounds_toArray, List.set_cons_zero, List.set_cons_succ]
        refine wpAnyH_take (i := 12) (oi := ⟨some 36, _, _, _, _, _⟩) (v := ?_) rfl (by kernel_rfl) (by kernel_rfl) (by kernel_rfl) (fun _ _ _ h => h) (Or.inl ⟨by rfl, ?_⟩) hH2 ?_
        rotate_left
        · intro w hSw
          try dsimp only at hSw
          go_simp
          try with_reducible rfl
        try simp only [Act.put, List.setIfInBounds_toArray, List.set_cons_zero, List.set_cons_succ]
        refine wpAnyH_ready (rs := [13]) (by kernel_rfl) (by simp) ?_
        refine AllReadyH.cons (o := ⟨some 37, _, _, _, _, _⟩) rfl (fun K hK => ?_) AllReadyH.nil
        go_simp
        refine (rnarrow_any _ _ _ _ _).mono ?_; rintro e v3 ⟨rfl, hb3⟩
        go_wp2_with fail
        refine hK.out _ _ (keep_six hb3 hH2) (fun hH3 => ?_)
        clear hK K hH2 hb3
        try simp only [Act.put, List.setIfInBounds_toArray, List.set_cons_zero, List.set_cons_succ]
        refine wpAnyH_take (i := 14) (oi := ⟨some 38, _, _, _, _, _⟩) (v := ?_) rfl (by kernel_rfl) (by kernel_rfl) (by kernel_rfl) (fun _ _ _ h => h) (Or.inl ⟨by rfl, ?_⟩) hH3 ?_
        rotate_left
        · intro w hSw
          try dsimp only at hSw
          go_simp
          try with_reducible rfl
        try simp only [Act.put, List.setIfInBounds_toArray, List.set_cons_zero, List.set_cons_succ]
        refine wpAnyH_take (i := 15) (oi := ⟨some 39, _, _, _, _, _⟩) (v := ?_) rfl (by kernel_rfl) (by kernel_rfl) (by kernel_rfl) (fun _ _ _ h => h) (Or.inl ⟨by rfl, ?_⟩) hH3 ?_
        rotate_left
        · intro w hSw
          try dsimp only at hSw
          go_simp
          try with_reducible rfl
        try simp only [Act.put, List.setIfInBounds_toArray, List.set_cons_zero, List.set_cons_succ]
        refine wpAnyH_take (i := 16) (oi := ⟨some 40, _, _, _, _, _⟩) (v := ?_) rfl (by kernel_rfl) (by kernel_rfl) (by kernel_rfl) (fun _ _ _ h => h) (Or.inl ⟨by rfl, ?_⟩) hH3 ?_
        rotate_left
        · intro w hSw
          try dsimp only at hSw
          go_simp
          try with_reducible rfl
        try simp only [Act.put, List.setIfInBounds_toArray, List.set_cons_zero, List.set_cons_succ]
        refine wpAnyH_take (i := 17) (oi := ⟨some 41, _, _, _, _, _⟩) (v := ?_) rfl (by kernel_rfl) (by kernel_rfl) (by kernel_rfl) (fun _ _ _ h => h) (Or.inl ⟨by rfl, ?_⟩) hH3 ?_
        rotate_left
        · intro w hSw
          try dsimp only at hSw
          go_simp
          try with_reducible rfl
        try simp only [Act.put, List.setIfInBounds_toArray, List.set_cons_zero, List.set_cons_succ]
        refine wpAnyH_take (i := 18) (oi := ⟨some 42, _, _, _, _, _⟩) (v := ?_) rfl (by kernel_rfl) (by kernel_rfl) (by kernel_rfl) (fun _ _ _ h => h) (Or.inl ⟨by rfl, ?_⟩) hH3 ?_
        rotate_left
        · intro w hSw
          try dsimp only at hSw
          go_simp
          try with_reducible rfl
        try simp only [Act.put, List.setIfInBounds_toArray, List.set_cons_zero, List.set_cons_succ]
        refine wpAnyH_ready (rs := [19]) (by kernel_rfl) (by simp) ?_
        refine AllReadyH.cons (o := ⟨some 43, _, _, _, _, _⟩) rfl (fun K hK => ?_) AllReadyH.nil
        go_simp
        refine (leq_any _ _ _ _ _).mono ?_; rintro e v4 ⟨rfl, hb4⟩
        go_wp2_with fail
        refine hK.out _ _ (keep_six hb4 hH3) (fun hH4 => ?_)
        clear hK K hH3 hb4
        try simp only [Act.put, List.setIfInBounds_toArray, List.set_cons_zero, List.set_cons_succ]
        refine wpAnyH_take (i := 20) (oi := ⟨some 44, _, _, _, _, _⟩) (v := ?_) rfl (by kernel_rfl) (by kernel_rfl) (by kernel_rfl) (fun _ _ _ h => h) (Or.inl ⟨by rfl, ?_⟩) hH4 ?_
        rotate_left
        · intro w hSw
          try dsimp only at hSw
          go_simp
          try with_reducible rfl
        try simp only [Act.put, List.setIfInBounds_toArray, List.set_cons_zero, List.set_cons_succ]
        refine wpAnyH_take (i := 21) (oi := ⟨some 45, _, _, _, _, _⟩) (v := ?_) rfl (by kernel_rfl) (by kernel_rfl) (by kernel_rfl) (fun _ _ _ h => h) (Or.inl ⟨by rfl, ?_⟩) hH4 ?_
        rotate_left
        · intro w hSw
          try dsimp only at hSw
          go_simp
          try with_reducible rfl
        try simp only [Act.put, List.setIfInBounds_toArray, List.set_cons_zero, List.set_cons_succ]
        refine wpAnyH_take (i := 22) (oi := ⟨some 46, _, _, _, _, _⟩) (v := ?_) rfl (by kernel_rfl) (by kernel_rfl) (by kernel_rfl) (fun _ _ _ h => h) (Or.inl ⟨by rfl, ?_⟩) hH4 ?_
        rotate_left
        · intro w hSw
          try dsimp only at hSw
          go_simp
          try with_reducible rfl
        try simp only [Act.put, List.setIfInBounds_toArray, List.set_cons_zero, List.set_cons_succ]
        refine wpAnyH_take (i := 23) (oi := ⟨some 47, _, _, _, _, _⟩) (v := ?_) rfl (by kernel_rfl) (by kernel_rfl) (by kernel_rfl) (fun _ _ _ h => h) (Or.inl ⟨by rfl, ?_⟩) hH4 ?_
        rotate_left
        · intro w hSw
          try dsimp only at hSw
          go_simp
          try with_reducible rfl
        try simp only [Act.put, List.setIfInBounds_toArray, List.set_cons_zero, List.set_cons_succ]
        refine wpAnyH_ready (rs := [24]) (by kernel_rfl) (by simp) ?_
        refine AllReadyH.cons (o := ⟨some 48, _, _, _, _, _⟩) rfl (fun K hK => ?_) AllReadyH.nil
        go_simp
        refine (leq_any _ _ _ _ _).mono ?_; rintro e v5 ⟨rfl, hb5⟩
        go_wp2_with fail
        refine hK.out _ _ (keep_six hb5 hH4) (fun hH5 => ?_)
        clear hK K hH4 hb5
        try simp only [Act.put, List.setIfInBounds_toArray, List.set_cons_zero, List.set_cons_succ]
        refine wpAnyH_take (i := 25) (oi := ⟨some 49, _, _, _, _, _⟩) (v := ?_) rfl (by kernel_rfl) (by kernel_rfl) (by kernel_rfl) (fun _ _ _ h => h) (Or.inl ⟨by rfl, ?_⟩) hH5 ?_
        rotate_left
        · intro w hSw
          try dsimp only at hSw
          go_simp
          try with_reducible rfl
        try simp only [Act.put, List.setIfInBounds_toArray, List.set_cons_zero, List.set_cons_succ]
        refine wpAnyH_take (i := 26) (oi := ⟨some 50, _, _, _, _, _⟩) (v := ?_) rfl (by kernel_rfl) (by kernel_rfl) (by kernel_rfl) (fun _ _ _ h => h) (Or.inl ⟨by rfl, ?_⟩) hH5 ?_
        rotate_left
        · intro w hSw
          try dsimp only at hSw
          go_simp
          try with_reducible rfl
        try simp only [Act.put, List.setIfInBounds_toArray, List.set_cons_zero, List.set_cons_succ]
        refine wpAnyH_take (i := 27) (oi := ⟨some 51, _, _, _, _, _⟩) (v := ?_) rfl (by kernel_rfl) (by kernel_rfl) (by kernel_rfl) (fun _ _ _ h => h) (Or.inl ⟨by rfl, ?_⟩) hH5 ?_
        rotate_left
        · intro w hSw
          try dsimp only at hSw
          go_simp
          try with_reducible rfl
        try simp only [Act.put, List.setIfInBounds_toArray, List.set_cons_zero, List.set_cons_succ]
        refine wpAnyH_take (i := 28) (oi := ⟨some 52, _, _, _, _, _⟩) (v := ?_) rfl (by kernel_rfl) (by kernel_rfl) (by kernel_rfl) (fun _ _ _ h => h) (Or.inl ⟨by rfl, ?_⟩) hH5 ?_
        rotate_left
        · intro w hSw
          try dsimp only at hSw
          go_simp
          try with_reducible rfl
        try simp only [Act.put, List.setIfInBounds_toArray, List.set_cons_zero, List.set_cons_succ]
        refine wpAnyH_take (i := 30) (oi := ⟨some 54, _, _, _, _, _⟩) (v := ?_) rfl (by kernel_rfl) (by kernel_rfl) (by kernel_rfl) (fun _ _ _ h => h) (Or.inl ⟨by rfl, ?_⟩) hH5 ?_
        rotate_left
        · intro w hSw
          try dsimp only at hSw
          go_simp
          try with_reducible rfl
        try simp only [Act.put, List.setIfInBounds_toArray, List.set_cons_zero, List.set_cons_succ]
        refine wpAnyH_ready (rs := [29]) (by kernel_rfl) (by simp) ?_
        refine AllReadyH.cons (o := ⟨some 53, _, _, _, _, _⟩) rfl (fun K hK => ?_) AllReadyH.nil
        go_simp
        refine (meet_any _ _ _ _ _).mono ?_; rintro e v6 ⟨rfl, hb6⟩
        go_wp2_with fail
        refine hK.out _ _ (keep_six hb6 hH5) (fun hH6 => ?_)
        clear hK K hH5 hb6
        try simp only [Act.put, List.setIfInBounds_toArray, List.set_cons_zero, List.set_cons_succ]
        refine wpAnyH_ready (rs := [31]) (by kernel_rfl) (by simp) ?_
        refine AllReadyH.cons (o := ⟨some 55, _, _, _, _, _⟩) rfl (fun K hK => ?_) AllReadyH.nil
        go_simp
        refine (leq_any _ _ _ _ _).mono ?_; rintro e v7 ⟨rfl, hb7⟩
        go_wp2_with fail
        refine hK.out _ _ (keep_six hb7 hH6) (fun hH7 => ?_)
        clear hK K hH6 hb7
        try simp only [Act.put, List.setIfInBounds_toArray, List.set_cons_zero, List.set_cons_succ]
        refine wpAnyH_take (i := 32) (oi := ⟨some 56, _, _, _, _, _⟩) (v := ?_) rfl (by kernel_rfl) (by kernel_rfl) (by kernel_rfl) (fun _ _ _ h => h) (Or.inl ⟨by rfl, ?_⟩) hH7 ?_
        rotate_left
        · intro w hSw
          try dsimp only at hSw
          go_simp
          try with_reducible rfl
        try simp only [Act.put, List.setIfInBounds_toArray, List.set_cons_zero, List.set_cons_succ]
        refine wpAnyH_take (i := 33) (oi := ⟨some 57, _, _, _, _, _⟩) (v := ?_) rfl (by kernel_rfl) (by kernel_rfl) (by kernel_rfl) (fun _ _ _ h => h) (Or.inl ⟨by rfl, ?_⟩) hH7 ?_
        rotate_left
        · intro w hSw
          try dsimp only at hSw
          go_simp
          try with_reducible rfl
        try simp only [Act.put, List.setIfInBounds_toArray, List.set_cons_zero, List.set_cons_succ]
        refine wpAnyH_take (i := 34) (oi := ⟨some 58, _, _, _, _, _⟩) (v := ?_) rfl (by kernel_rfl) (by kernel_rfl) (by kernel_rfl) (fun _ _ _ h => h) (Or.inl ⟨by rfl, ?_⟩) hH7 ?_
        rotate_left
        · intro w hSw
          try dsimp only at hSw
          go_simp
          try with_reducible rfl
        try simp only [Act.put, List.setIfInBounds_toArray, List.set_cons_zero, List.set_cons_succ]
        refine wpAnyH_take (i := 35) (oi := ⟨some 59, _, _, _, _, _⟩) (v := ?_) rfl (by kernel_rfl) (by kernel_rfl) (by kernel_rfl) (fun _ _ _ h => h) (Or.inl ⟨by rfl, ?_⟩) hH7 ?_
        rotate_left
        · intro w hSw
          try dsimp only at hSw
          go_simp
          try with_reducible rfl
        try simp only [Act.put, List.setIfInBounds_toArray, List.set_cons_zero, List.set_cons_succ]
        refine wpAnyH_ready (rs := [36]) (by kernel_rfl) (by simp) ?_
        refine AllReadyH.cons (o := ⟨some 60, _, _, _, _, _⟩) rfl (fun K hK => ?_) AllReadyH.nil
        go_simp
        refine (leq_any _ _ _ _ _).mono ?_; rintro e v8 ⟨rfl, hb8⟩
        go_wp2_with fail
        refine hK.out _ _ (keep_six hb8 hH7) (fun hH8 => ?_)
        clear hK K hH7 hb8
        try simp only [Act.put, List.setIfInBounds_toArray, List.set_cons_zero, List.set_cons_succ]
        refine wpAnyH_take (i := 37) (oi := ⟨some 61, _, _, _, _, _⟩) (v := ?_) rfl (by kernel_rfl) (by kernel_rfl) (by kernel_rfl) (fun _ _ _ h => h) (Or.inl ⟨by rfl, ?_⟩) hH8 ?_
        rotate_left
        · intro w hSw
          try dsimp only at hSw
          go_simp
          try with_reducible rfl
        try simp only [Act.put, List.setIfInBounds_toArray, List.set_cons_zero, List.set_cons_succ]
        refine wpAnyH_take (i := 38) (oi := ⟨some 62, _, _, _, _, _⟩) (v := ?_) rfl (by kernel_rfl) (by kernel_rfl) (by kernel_rfl) (fun _ _ _ h => h) (Or.inl ⟨by rfl, ?_⟩) hH8 ?_
        rotate_left
        · intro w hSw
          try dsimp only at hSw
          go_simp
          try with_reducible rfl
        try simp only [Act.put, List.setIfInBounds_toArray, List.set_cons_zero, List.set_cons_succ]
        refine wpAnyH_take (i := 39) (oi := ⟨some 63, _, _, _, _, _⟩) (v := undef) rfl (by kernel_rfl) (by kernel_rfl) (by kernel_rfl) (fun _ _ _ h => h) (Or.inr ⟨by rfl, rfl⟩) hH8 ?_
        try simp only [Act.put, List.setIfInBounds_toArray, List.set_cons_zero, List.set_cons_succ]
        refine wpAnyH_take (i := 40) (oi := ⟨some 64, _, _, _, _, _⟩) (v := undef) rfl (by kernel_rfl) (by kernel_rfl) (by kernel_rfl) (fun _ _ _ h => h) (Or.inr ⟨by rfl, rfl⟩) hH8 ?_
        try simp only [Act.put, List.setIfInBounds_toArray, List.set_cons_zero, List.set_cons_succ]
        refine wpAnyH_take (i := 41) (oi := ⟨some 65, _, _, _, _, _⟩) (v := undef) rfl (by kernel_rfl) (by kernel_rfl) (by kernel_rfl) (fun _ _ _ h => h) (Or.inr ⟨by rfl, rfl⟩) hH8 ?_
        try simp only [Act.put, List.setIfInBounds_toArray, List.set_cons_zero, List.set_cons_succ]
        refine wpAnyH_take (i := 42) (oi := ⟨some 66, _, _, _, _, _⟩) (v := undef) rfl (by kernel_rfl) (by kernel_rfl) (by kernel_rfl) (fun _ _ _ h => h) (Or.inr ⟨by rfl, rfl⟩) hH8 ?_
        try simp only [Act.put, List.setIfInBounds_toArray, List.set_cons_zero, List.set_cons_succ]
        refine wpAnyH_take (i := 43) (oi := ⟨some 67, _, _, _, _, _⟩) (v := undef) rfl (by kernel_rfl) (by kernel_rfl) (by kernel_rfl) (fun _ _ _ h => h) (Or.inr ⟨by rfl, rfl⟩) hH8 ?_
        try simp only [Act.put, List.setIfInBounds_toArray, List.set_cons_zero, List.set_cons_succ]
        refine wpAnyH_take (i := 44) (oi := ⟨some 68, _, _, _, _, _⟩) (v := undef) rfl (by kernel_rfl) (by kernel_rfl) (by kernel_rfl) (fun _ _ _ h => h) (Or.inr ⟨by rfl, rfl⟩) hH8 ?_
        try simp only [Act.put, List.setIfInBounds_toArray, List.set_cons_zero, List.set_cons_succ]
        refine wpAnyH_take (i := 45) (oi := ⟨some 69, _, _, _, _, _⟩) (v := undef) rfl (by kernel_rfl) (by kernel_rfl) (by kernel_rfl) (fun _ _ _ h => h) (Or.inr ⟨by rfl, rfl⟩) hH8 ?_
        try simp only [Act.put, List.setIfInBounds_toArray, List.set_cons_zero, List.set_cons_succ]
        refine wpAnyH_take (i := 46) (oi := ⟨some 70, _, _, _, _, _⟩) (v := undef) rfl (by kernel_rfl) (by kernel_rfl) (by kernel_rfl) (fun _ _ _ h => h) (Or.inr ⟨by rfl, rfl⟩) hH8 ?_
        try simp only [Act.put, List.setIfInBounds_toArray, List.set_cons_zero, List.set_cons_succ]
        refine wpAnyH_take (i := 47) (oi := ⟨some 71, _, _, _, _, _⟩) (v := ?_) rfl (by kernel_rfl) (by kernel_rfl) (by kernel_rfl) (fun _ _ _ h => h) (Or.inl ⟨by rfl, ?_⟩) hH8 ?_
        rotate_left
        · intro w hSw
          try dsimp only at hSw
          go_simp
          try with_reducible rfl
        try simp only [Act.put, List.setIfInBounds_toArray, List.set_cons_zero, List.set_cons_succ]
        refine wpAnyH_take (i := 48) (oi := ⟨some 72, _, _, _, _, _⟩) (v := ?_) rfl (by kernel_rfl) (by kernel_rfl) (by kernel_rfl) (fun _ _ _ h => h) (Or.inl ⟨by rfl, ?_⟩) hH8 ?_
        rotate_left
        · intro w hSw
          try dsimp only at hSw
          go_simp
          try with_reducible rfl
        try simp only [Act.put, List.setIfInBounds_toArray, List.set_cons_zero, List.set_cons_succ]
        refine wpAnyH_take (i := 49) (oi := ⟨some 6, _, _, _, _, _⟩) (v := ?_) rfl (by kernel_rfl) (by kernel_rfl) (by kernel_rfl) (fun _ _ _ h => h) (Or.inl ⟨by rfl, ?_⟩) hH8 ?_
        rotate_left
        · intro w hSw
          try dsimp only at hSw
          go_simp
          try with_reducible rfl
        try simp only [Act.put, List.setIfInBounds_toArray, List.set_cons_zero, List.set_cons_succ]
        refine wpAnyH_done (by kernel_rfl) ?_ _
        have HB := Lib.hid hH8.1
        clear hH8
        go_wp2_with fail
        go_ret
        exact ⟨rfl, HB.out⟩
      · obtain ⟨k6, k7⟩ := nar_in a b c d hp
        refine wp_region_held_drew (S := (fun w' => Below w.heap.size w w' ∧ Ints w' A k f ∧ w.heap.size < w'.heap.size ∧ w.heap.size + 1 < w'.heap.size ∧ j < w'.heap.size ∧ m < w'.heap.size ∧ g < w'.heap.size ∧ h < w'.heap.size ∧ w'.cell? ⟨w.heap.size, 0, none⟩ = some (.int .i64 a) ∧ w'.cell? ⟨w.heap.size, 1, none⟩ = some (.int .i64 b) ∧ w'.cell? ⟨w.heap.size + 1, 0, none⟩ = some (.int .i64 c) ∧ w'.cell? ⟨w.heap.size + 1, 1, none⟩ = some (.int .i64 d) ∧ w'.cell? ⟨j, 0, none⟩ = some (.int .i64 (widL f k a b c d)) ∧ w'.cell? ⟨j, 1, none⟩ = some (.int .i64 (widH f k a b c d)) ∧ w'.cell? ⟨m, 0, none⟩ = some (.int .i64 (narL a b c d)) ∧ w'.cell? ⟨m, 1, none⟩ = some (.int .i64 (narH a b c d)) ∧ w'.cell? ⟨g, 0, none⟩ = some (.int .i64 a) ∧ w'.cell? ⟨g, 1, none⟩ = some (.int .i64 b) ∧ w'.cell? ⟨h, 0, none⟩ = some (.int .i64 c) ∧ w'.cell? ⟨h, 1, none⟩ = some (.int .i64 d))) (by kernel_rfl) (six_drew HK.out) (fun hH0 => ?_)
        clear HK
        refine wpAnyH_ready (rs := [0]) (by kernel_rfl) (by simp) ?_
        refine AllReadyH.cons (o := ⟨some 24, _, _, _, _, _⟩) rfl (fun K hK => ?_) AllReadyH.nil
        go_simp
        refine (alive_any _).mono ?_; rintro e v1 ⟨rfl, hb1⟩
        go_wp2_with fail
        refine hK.out _ _ (keep_six hb1 hH0) (fun hH1 => ?_)
        clear hK K hH0 hb1
        try simp only [Act.put, List.setIfInBounds_toArray, List.set_cons_zero, List.set_cons_succ]
        refine wpAnyH_take (i := 1) (oi := ⟨some 25, _, _, _, _, _⟩) (v := ?_) rfl (by kernel_rfl) (by kernel_rfl) (by kernel_rfl) (fun _ _ _ h => h) (Or.inl ⟨by rfl, ?_⟩) hH1 ?_
        rotate_left
        · intro w hSw
          try dsimp only at hSw
          go_simp
          try with_reducible rfl
        try simp only [Act.put, List.setIfInBounds_toArray, List.set_cons_zero, List.set_cons_succ]
        refine wpAnyH_take (i := 2) (oi := ⟨some 26, _, _, _, _, _⟩) (v := ?_) rfl (by kernel_rfl) (by kernel_rfl) (by kernel_rfl) (fun _ _ _ h => h) (Or.inl ⟨by rfl, ?_⟩) hH1 ?_
        rotate_left
        · intro w hSw
          try dsimp only at hSw
          go_simp
          try with_reducible rfl
        try simp only [Act.put, List.setIfInBounds_toArray, List.set_cons_zero, List.set_cons_succ]
        refine wpAnyH_take (i := 3) (oi := ⟨some 27, _, _, _, _, _⟩) (v := ?_) rfl (by kernel_rfl) (by kernel_rfl) (by kernel_rfl) (fun _ _ _ h => h) (Or.inl ⟨by rfl, ?_⟩) hH1 ?_
        rotate_left
        · intro w hSw
          try dsimp only at hSw
          go_simp
          try with_reducible rfl
        try simp only [Act.put, List.setIfInBounds_toArray, List.set_cons_zero, List.set_cons_succ]
        refine wpAnyH_take (i := 4) (oi := ⟨some 28, _, _, _, _, _⟩) (v := ?_) rfl (by kernel_rfl) (by kernel_rfl) (by kernel_rfl) (fun _ _ _ h => h) (Or.inl ⟨by rfl, ?_⟩) hH1 ?_
        rotate_left
        · intro w hSw
          try dsimp only at hSw
          go_simp
          try with_reducible rfl
        try simp only [Act.put, List.setIfInBounds_toArray, List.set_cons_zero, List.set_cons_succ]
        refine wpAnyH_take (i := 5) (oi := ⟨some 29, _, _, _, _, _⟩) (v := ?_) rfl (by kernel_rfl) (by kernel_rfl) (by kernel_rfl) (fun _ _ _ h => h) (Or.inl ⟨by rfl, ?_⟩) hH1 ?_
        rotate_left
        · intro w hSw
          try dsimp only at hSw
          go_simp
          try with_reducible rfl
        try simp only [Act.put, List.setIfInBounds_toArray, List.set_cons_zero, List.set_cons_succ]
        refine wpAnyH_ready (rs := [6]) (by kernel_rfl) (by simp) ?_
        refine AllReadyH.cons (o := ⟨some 30, _, _, _, _, _⟩) rfl (fun K hK => ?_) AllReadyH.nil
        go_simp
        refine (rwiden_any f a b c d A k cap _ hz hH1.2.1).mono ?_; rintro e v2 ⟨rfl, hb2⟩
        go_wp2_with fail
        refine hK.out _ _ (keep_six hb2 hH1) (fun hH2 => ?_)
        clear hK K hH1 hb2
        try simp only [Act.put, List.setIfInBounds_toArray, List.set_cons_zero, List.set_cons_succ]
        refine wpAnyH_take (i := 7) (oi := ⟨some 31, _, _, _, _, _⟩) (v := ?_) rfl (by kernel_rfl) (by kernel_rfl) (by kernel_rfl) (fun _ _ _ h => h) (Or.inl ⟨by rfl, ?_⟩) hH2 ?_
        rotate_left
        · intro w hSw
          try dsimp only at hSw
          go_simp
          try with_reducible rfl
        try simp only [Act.put, List.setIfInBounds_toArray, List.set_cons_zero, List.set_cons_succ]
        refine wpAnyH_take (i := 8) (oi := ⟨some 32, _, _, _, _, _⟩) (v := ?_) rfl (by kernel_rfl) (by kernel_rfl) (by kernel_rfl) (fun _ _ _ h => h) (Or.inl ⟨by rfl, ?_⟩) hH2 ?_
        rotate_left
        · intro w hSw
          try dsimp only at hSw
          go_simp
          try with_reducible rfl
        try simp only [Act.put, List.setIfInBounds_toArray, List.set_cons_zero, List.set_cons_succ]
        refine wpAnyH_take (i := 9) (oi := ⟨some 33, _, _, _, _, _⟩) (v := ?_) rfl (by kernel_rfl) (by kernel_rfl) (by kernel_rfl) (fun _ _ _ h => h) (Or.inl ⟨by rfl, ?_⟩) hH2 ?_
        rotate_left
        · intro w hSw
          try dsimp only at hSw
          go_simp
          try with_reducible rfl
        try simp only [Act.put, List.setIfInBounds_toArray, List.set_cons_zero, List.set_cons_succ]
        refine wpAnyH_take (i := 10) (oi := ⟨some 34, _, _, _, _, _⟩) (v := ?_) rfl (by kernel_rfl) (by kernel_rfl) (by kernel_rfl) (fun _ _ _ h => h) (Or.inl ⟨by rfl, ?_⟩) hH2 ?_
        rotate_left
        · intro w hSw
          try dsimp only at hSw
          go_simp
          try with_reducible rfl
        try simp only [Act.put, List.setIfInBounds_toArray, List.set_cons_zero, List.set_cons_succ]
        refine wpAnyH_take (i := 11) (oi := ⟨some 35, _, _, _, _, _⟩) (v := ?_) rfl (by kernel_rfl) (by kernel_rfl) (by kernel_rfl) (fun _ _ _ h => h) (Or.inl ⟨by rfl, ?_⟩) hH2 ?_
        rotate_left
        · intro w hSw
          try dsimp only at hSw
          go_simp
          try with_reducible rfl
        try simp only [Act.put, List.setIfInBounds_toArray, List.set_cons_zero, List.set_cons_succ]
        refine wpAnyH_take (i := 12) (oi := ⟨some 36, _, _, _, _, _⟩) (v := ?_) rfl (by kernel_rfl) (by kernel_rfl) (by kernel_rfl) (fun _ _ _ h => h) (Or.inl ⟨by rfl, ?_⟩) hH2 ?_
        rotate_left
        · intro w hSw
          try dsimp only at hSw
          go_simp
          try with_reducible rfl
        try simp only [Act.put, List.setIfInBounds_toArray, List.set_cons_zero, List.set_cons_succ]
        refine wpAnyH_ready (rs := [13]) (by kernel_rfl) (by simp) ?_
        refine AllReadyH.cons (o := ⟨some 37, _, _, _, _, _⟩) rfl (fun K hK => ?_) AllReadyH.nil
        go_simp
        refine (rnarrow_any _ _ _ _ _).mono ?_; rintro e v3 ⟨rfl, hb3⟩
        go_wp2_with fail
        refine hK.out _ _ (keep_six hb3 hH2) (fun hH3 => ?_)
        clear hK K hH2 hb3
        try simp only [Act.put, List.setIfInBounds_toArray, List.set_cons_zero, List.set_cons_succ]
        refine wpAnyH_take (i := 14) (oi := ⟨some 38, _, _, _, _, _⟩) (v := ?_) rfl (by kernel_rfl) (by kernel_rfl) (by kernel_rfl) (fun _ _ _ h => h) (Or.inl ⟨by rfl, ?_⟩) hH3 ?_
        rotate_left
        · intro w hSw
          try dsimp only at hSw
          go_simp
          try with_reducible rfl
        try simp only [Act.put, List.setIfInBounds_toArray, List.set_cons_zero, List.set_cons_succ]
        refine wpAnyH_take (i := 15) (oi := ⟨some 39, _, _, _, _, _⟩) (v := ?_) rfl (by kernel_rfl) (by kernel_rfl) (by kernel_rfl) (fun _ _ _ h => h) (Or.inl ⟨by rfl, ?_⟩) hH3 ?_
        rotate_left
        · intro w hSw
          try dsimp only at hSw
          go_simp
          try with_reducible rfl
        try simp only [Act.put, List.setIfInBounds_toArray, List.set_cons_zero, List.set_cons_succ]
        refine wpAnyH_take (i := 16) (oi := ⟨some 40, _, _, _, _, _⟩) (v := ?_) rfl (by kernel_rfl) (by kernel_rfl) (by kernel_rfl) (fun _ _ _ h => h) (Or.inl ⟨by rfl, ?_⟩) hH3 ?_
        rotate_left
        · intro w hSw
          try dsimp only at hSw
          go_simp
          try with_reducible rfl
        try simp only [Act.put, List.setIfInBounds_toArray, List.set_cons_zero, List.set_cons_succ]
        refine wpAnyH_take (i := 17) (oi := ⟨some 41, _, _, _, _, _⟩) (v := ?_) rfl (by kernel_rfl) (by kernel_rfl) (by kernel_rfl) (fun _ _ _ h => h) (Or.inl ⟨by rfl, ?_⟩) hH3 ?_
        rotate_left
        · intro w hSw
          try dsimp only at hSw
          go_simp
          try with_reducible rfl
        try simp only [Act.put, List.setIfInBounds_toArray, List.set_cons_zero, List.set_cons_succ]
        refine wpAnyH_take (i := 18) (oi := ⟨some 42, _, _, _, _, _⟩) (v := ?_) rfl (by kernel_rfl) (by kernel_rfl) (by kernel_rfl) (fun _ _ _ h => h) (Or.inl ⟨by rfl, ?_⟩) hH3 ?_
        rotate_left
        · intro w hSw
          try dsimp only at hSw
          go_simp
          try with_reducible rfl
        try simp only [Act.put, List.setIfInBounds_toArray, List.set_cons_zero, List.set_cons_succ]
        refine wpAnyH_ready (rs := [19]) (by kernel_rfl) (by simp) ?_
        refine AllReadyH.cons (o := ⟨some 43, _, _, _, _, _⟩) rfl (fun K hK => ?_) AllReadyH.nil
        go_simp
        refine (leq_any _ _ _ _ _).mono ?_; rintro e v4 ⟨rfl, hb4⟩
        go_wp2_with fail
        refine hK.out _ _ (keep_six hb4 hH3) (fun hH4 => ?_)
        clear hK K hH3 hb4
        try simp only [Act.put, List.setIfInBounds_toArray, List.set_cons_zero, List.set_cons_succ]
        refine wpAnyH_take (i := 20) (oi := ⟨some 44, _, _, _, _, _⟩) (v := ?_) rfl (by kernel_rfl) (by kernel_rfl) (by kernel_rfl) (fun _ _ _ h => h) (Or.inl ⟨by rfl, ?_⟩) hH4 ?_
        rotate_left
        · intro w hSw
          try dsimp only at hSw
          go_simp
          try with_reducible rfl
        try simp only [Act.put, List.setIfInBounds_toArray, List.set_cons_zero, List.set_cons_succ]
        refine wpAnyH_take (i := 21) (oi := ⟨some 45, _, _, _, _, _⟩) (v := ?_) rfl (by kernel_rfl) (by kernel_rfl) (by kernel_rfl) (fun _ _ _ h => h) (Or.inl ⟨by rfl, ?_⟩) hH4 ?_
        rotate_left
        · intro w hSw
          try dsimp only at hSw
          go_simp
          try with_reducible rfl
        try simp only [Act.put, List.setIfInBounds_toArray, List.set_cons_zero, List.set_cons_succ]
        refine wpAnyH_take (i := 22) (oi := ⟨some 46, _, _, _, _, _⟩) (v := ?_) rfl (by kernel_rfl) (by kernel_rfl) (by kernel_rfl) (fun _ _ _ h => h) (Or.inl ⟨by rfl, ?_⟩) hH4 ?_
        rotate_left
        · intro w hSw
          try dsimp only at hSw
          go_simp
          try with_reducible rfl
        try simp only [Act.put, List.setIfInBounds_toArray, List.set_cons_zero, List.set_cons_succ]
        refine wpAnyH_take (i := 23) (oi := ⟨some 47, _, _, _, _, _⟩) (v := ?_) rfl (by kernel_rfl) (by kernel_rfl) (by kernel_rfl) (fun _ _ _ h => h) (Or.inl ⟨by rfl, ?_⟩) hH4 ?_
        rotate_left
        · intro w hSw
          try dsimp only at hSw
          go_simp
          try with_reducible rfl
        try simp only [Act.put, List.setIfInBounds_toArray, List.set_cons_zero, List.set_cons_succ]
        refine wpAnyH_ready (rs := [24]) (by kernel_rfl) (by simp) ?_
        refine AllReadyH.cons (o := ⟨some 48, _, _, _, _, _⟩) rfl (fun K hK => ?_) AllReadyH.nil
        go_simp
        refine (leq_any _ _ _ _ _).mono ?_; rintro e v5 ⟨rfl, hb5⟩
        go_wp2_with fail
        refine hK.out _ _ (keep_six hb5 hH4) (fun hH5 => ?_)
        clear hK K hH4 hb5
        try simp only [Act.put, List.setIfInBounds_toArray, List.set_cons_zero, List.set_cons_succ]
        refine wpAnyH_take (i := 25) (oi := ⟨some 49, _, _, _, _, _⟩) (v := ?_) rfl (by kernel_rfl) (by kernel_rfl) (by kernel_rfl) (fun _ _ _ h => h) (Or.inl ⟨by rfl, ?_⟩) hH5 ?_
        rotate_left
        · intro w hSw
          try dsimp only at hSw
          go_simp
          try with_reducible rfl
        try simp only [Act.put, List.setIfInBounds_toArray, List.set_cons_zero, List.set_cons_succ]
        refine wpAnyH_take (i := 26) (oi := ⟨some 50, _, _, _, _, _⟩) (v := ?_) rfl (by kernel_rfl) (by kernel_rfl) (by kernel_rfl) (fun _ _ _ h => h) (Or.inl ⟨by rfl, ?_⟩) hH5 ?_
        rotate_left
        · intro w hSw
          try dsimp only at hSw
          go_simp
          try with_reducible rfl
        try simp only [Act.put, List.setIfInBounds_toArray, List.set_cons_zero, List.set_cons_succ]
        refine wpAnyH_take (i := 27) (oi := ⟨some 51, _, _, _, _, _⟩) (v := ?_) rfl (by kernel_rfl) (by kernel_rfl) (by kernel_rfl) (fun _ _ _ h => h) (Or.inl ⟨by rfl, ?_⟩) hH5 ?_
        rotate_left
        · intro w hSw
          try dsimp only at hSw
          go_simp
          try with_reducible rfl
        try simp only [Act.put, List.setIfInBounds_toArray, List.set_cons_zero, List.set_cons_succ]
        refine wpAnyH_take (i := 28) (oi := ⟨some 52, _, _, _, _, _⟩) (v := ?_) rfl (by kernel_rfl) (by kernel_rfl) (by kernel_rfl) (fun _ _ _ h => h) (Or.inl ⟨by rfl, ?_⟩) hH5 ?_
        rotate_left
        · intro w hSw
          try dsimp only at hSw
          go_simp
          try with_reducible rfl
        try simp only [Act.put, List.setIfInBounds_toArray, List.set_cons_zero, List.set_cons_succ]
        refine wpAnyH_take (i := 30) (oi := ⟨some 54, _, _, _, _, _⟩) (v := ?_) rfl (by kernel_rfl) (by kernel_rfl) (by kernel_rfl) (fun _ _ _ h => h) (Or.inl ⟨by rfl, ?_⟩) hH5 ?_
        rotate_left
        · intro w hSw
          try dsimp only at hSw
          go_simp
          try with_reducible rfl
        try simp only [Act.put, List.setIfInBounds_toArray, List.set_cons_zero, List.set_cons_succ]
        refine wpAnyH_ready (rs := [29]) (by kernel_rfl) (by simp) ?_
        refine AllReadyH.cons (o := ⟨some 53, _, _, _, _, _⟩) rfl (fun K hK => ?_) AllReadyH.nil
        go_simp
        refine (meet_any _ _ _ _ _).mono ?_; rintro e v6 ⟨rfl, hb6⟩
        go_wp2_with fail
        refine hK.out _ _ (keep_six hb6 hH5) (fun hH6 => ?_)
        clear hK K hH5 hb6
        try simp only [Act.put, List.setIfInBounds_toArray, List.set_cons_zero, List.set_cons_succ]
        refine wpAnyH_ready (rs := [31]) (by kernel_rfl) (by simp) ?_
        refine AllReadyH.cons (o := ⟨some 55, _, _, _, _, _⟩) rfl (fun K hK => ?_) AllReadyH.nil
        go_simp
        refine (leq_any _ _ _ _ _).mono ?_; rintro e v7 ⟨rfl, hb7⟩
        go_wp2_with fail
        refine hK.out _ _ (keep_six hb7 hH6) (fun hH7 => ?_)
        clear hK K hH6 hb7
        try simp only [Act.put, List.setIfInBounds_toArray, List.set_cons_zero, List.set_cons_succ]
        refine wpAnyH_take (i := 32) (oi := ⟨some 56, _, _, _, _, _⟩) (v := ?_) rfl (by kernel_rfl) (by kernel_rfl) (by kernel_rfl) (fun _ _ _ h => h) (Or.inl ⟨by rfl, ?_⟩) hH7 ?_
        rotate_left
        · intro w hSw
          try dsimp only at hSw
          go_simp
          try with_reducible rfl
        try simp only [Act.put, List.setIfInBounds_toArray, List.set_cons_zero, List.set_cons_succ]
        refine wpAnyH_take (i := 33) (oi := ⟨some 57, _, _, _, _, _⟩) (v := ?_) rfl (by kernel_rfl) (by kernel_rfl) (by kernel_rfl) (fun _ _ _ h => h) (Or.inl ⟨by rfl, ?_⟩) hH7 ?_
        rotate_left
        · intro w hSw
          try dsimp only at hSw
          go_simp
          try with_reducible rfl
        try simp only [Act.put, List.setIfInBounds_toArray, List.set_cons_zero, List.set_cons_succ]
        refine wpAnyH_take (i := 34) (oi := ⟨some 58, _, _, _, _, _⟩) (v := ?_) rfl (by kernel_rfl) (by kernel_rfl) (by kernel_rfl) (fun _ _ _ h => h) (Or.inl ⟨by rfl, ?_⟩) hH7 ?_
        rotate_left
        · intro w hSw
          try dsimp only at hSw
          go_simp
          try with_reducible rfl
        try simp only [Act.put, List.setIfInBounds_toArray, List.set_cons_zero, List.set_cons_succ]
        refine wpAnyH_take (i := 35) (oi := ⟨some 59, _, _, _, _, _⟩) (v := ?_) rfl (by kernel_rfl) (by kernel_rfl) (by kernel_rfl) (fun _ _ _ h => h) (Or.inl ⟨by rfl, ?_⟩) hH7 ?_
        rotate_left
        · intro w hSw
          try dsimp only at hSw
          go_simp
          try with_reducible rfl
        try simp only [Act.put, List.setIfInBounds_toArray, List.set_cons_zero, List.set_cons_succ]
        refine wpAnyH_ready (rs := [36]) (by kernel_rfl) (by simp) ?_
        refine AllReadyH.cons (o := ⟨some 60, _, _, _, _, _⟩) rfl (fun K hK => ?_) AllReadyH.nil
        go_simp
        refine (leq_any _ _ _ _ _).mono ?_; rintro e v8 ⟨rfl, hb8⟩
        go_wp2_with fail
        refine hK.out _ _ (keep_six hb8 hH7) (fun hH8 => ?_)
        clear hK K hH7 hb8
        try simp only [Act.put, List.setIfInBounds_toArray, List.set_cons_zero, List.set_cons_succ]
        refine wpAnyH_take (i := 37) (oi := ⟨some 61, _, _, _, _, _⟩) (v := ?_) rfl (by kernel_rfl) (by kernel_rfl) (by kernel_rfl) (fun _ _ _ h => h) (Or.inl ⟨by rfl, ?_⟩) hH8 ?_
        rotate_left
        · intro w hSw
          try dsimp only at hSw
          go_simp
          try with_reducible rfl
        try simp only [Act.put, List.setIfInBounds_toArray, List.set_cons_zero, List.set_cons_succ]
        refine wpAnyH_take (i := 38) (oi := ⟨some 62, _, _, _, _, _⟩) (v := ?_) rfl (by kernel_rfl) (by kernel_rfl) (by kernel_rfl) (fun _ _ _ h => h) (Or.inl ⟨by rfl, ?_⟩) hH8 ?_
        rotate_left
        · intro w hSw
          try dsimp only at hSw
          go_simp
          try with_reducible rfl
        try simp only [Act.put, List.setIfInBounds_toArray, List.set_cons_zero, List.set_cons_succ]
        refine wpAnyH_take (i := 39) (oi := ⟨some 63, _, _, _, _, _⟩) (v := ?_) rfl (by kernel_rfl) (by kernel_rfl) (by kernel_rfl) (fun _ _ _ h => h) (Or.inl ⟨by rfl, ?_⟩) hH8 ?_
        rotate_left
        · intro w hSw
          try dsimp only at hSw
          go_simp
          try with_reducible rfl
        try simp only [Act.put, List.setIfInBounds_toArray, List.set_cons_zero, List.set_cons_succ]
        refine wpAnyH_take (i := 40) (oi := ⟨some 64, _, _, _, _, _⟩) (v := ?_) rfl (by kernel_rfl) (by kernel_rfl) (by kernel_rfl) (fun _ _ _ h => h) (Or.inl ⟨by rfl, ?_⟩) hH8 ?_
        rotate_left
        · intro w hSw
          try dsimp only at hSw
          go_simp
          try with_reducible rfl
        try simp only [Act.put, List.setIfInBounds_toArray, List.set_cons_zero, List.set_cons_succ]
        refine wpAnyH_ready (rs := [41]) (by kernel_rfl) (by simp) ?_
        refine AllReadyH.cons (o := ⟨some 65, _, _, _, _, _⟩) rfl (fun K hK => ?_) AllReadyH.nil
        go_simp
        refine (leq_any _ _ _ _ _).mono ?_; rintro e v9 ⟨rfl, hb9⟩
        go_wp2_with fail
        refine hK.out _ _ (keep_six hb9 hH8) (fun hH9 => ?_)
        clear hK K hH8 hb9
        try simp only [Act.put, List.setIfInBounds_toArray, List.set_cons_zero, List.set_cons_succ]
        refine wpAnyH_take (i := 42) (oi := ⟨some 66, _, _, _, _, _⟩) (v := ?_) rfl (by kernel_rfl) (by kernel_rfl) (by kernel_rfl) (fun _ _ _ h => h) (Or.inl ⟨by rfl, ?_⟩) hH9 ?_
        rotate_left
        · intro w hSw
          try dsimp only at hSw
          go_simp
          try with_reducible rfl
        try simp only [Act.put, List.setIfInBounds_toArray, List.set_cons_zero, List.set_cons_succ]
        refine wpAnyH_take (i := 43) (oi := ⟨some 67, _, _, _, _, _⟩) (v := ?_) rfl (by kernel_rfl) (by kernel_rfl) (by kernel_rfl) (fun _ _ _ h => h) (Or.inl ⟨by rfl, ?_⟩) hH9 ?_
        rotate_left
        · intro w hSw
          try dsimp only at hSw
          go_simp
          try with_reducible rfl
        try simp only [Act.put, List.setIfInBounds_toArray, List.set_cons_zero, List.set_cons_succ]
        refine wpAnyH_take (i := 44) (oi := ⟨some 68, _, _, _, _, _⟩) (v := ?_) rfl (by kernel_rfl) (by kernel_rfl) (by kernel_rfl) (fun _ _ _ h => h) (Or.inl ⟨by rfl, ?_⟩) hH9 ?_
        rotate_left
        · intro w hSw
          try dsimp only at hSw
          go_simp
          try with_reducible rfl
        try simp only [Act.put, List.setIfInBounds_toArray, List.set_cons_zero, List.set_cons_succ]
        refine wpAnyH_ready (rs := [45]) (by kernel_rfl) (by simp) ?_
        refine AllReadyH.cons (o := ⟨some 69, _, _, _, _, _⟩) rfl (fun K hK => ?_) AllReadyH.nil
        go_simp
        refine (leq_any _ _ _ _ _).mono ?_; rintro e v10 ⟨rfl, hb10⟩
        go_wp2_with fail
        refine hK.out _ _ (keep_six hb10 hH9) (fun hH10 => ?_)
        clear hK K hH9 hb10
        try simp only [Act.put, List.setIfInBounds_toArray, List.set_cons_zero, List.set_cons_succ]
        refine wpAnyH_take (i := 46) (oi := ⟨some 70, _, _, _, _, _⟩) (v := ?_) rfl (by kernel_rfl) (by kernel_rfl) (by kernel_rfl) (fun _ _ _ h => h) (Or.inl ⟨by rfl, ?_⟩) hH10 ?_
        rotate_left
        · intro w hSw
          try dsimp only at hSw
          go_simp
          try with_reducible rfl
        try simp only [Act.put, List.setIfInBounds_toArray, List.set_cons_zero, List.set_cons_succ]
        refine wpAnyH_take (i := 47) (oi := ⟨some 71, _, _, _, _, _⟩) (v := ?_) rfl (by kernel_rfl) (by kernel_rfl) (by kernel_rfl) (fun _ _ _ h => h) (Or.inl ⟨by rfl, ?_⟩) hH10 ?_
        rotate_left
        · intro w hSw
          try dsimp only at hSw
          go_simp
          try with_reducible rfl
        try simp only [Act.put, List.setIfInBounds_toArray, List.set_cons_zero, List.set_cons_succ]
        refine wpAnyH_take (i := 48) (oi := ⟨some 72, _, _, _, _, _⟩) (v := ?_) rfl (by kernel_rfl) (by kernel_rfl) (by kernel_rfl) (fun _ _ _ h => h) (Or.inl ⟨by rfl, ?_⟩) hH10 ?_
        rotate_left
        · intro w hSw
          try dsimp only at hSw
          go_simp
          try with_reducible rfl
        try simp only [Act.put, List.setIfInBounds_toArray, List.set_cons_zero, List.set_cons_succ]
        refine wpAnyH_take (i := 49) (oi := ⟨some 6, _, _, _, _, _⟩) (v := ?_) rfl (by kernel_rfl) (by kernel_rfl) (by kernel_rfl) (fun _ _ _ h => h) (Or.inl ⟨by rfl, ?_⟩) hH10 ?_
        rotate_left
        · intro w hSw
          try dsimp only at hSw
          go_simp
          try with_reducible rfl
        try simp only [Act.put, List.setIfInBounds_toArray, List.set_cons_zero, List.set_cons_succ]
        refine wpAnyH_done (by kernel_rfl) ?_ _
        have HB := Lib.hid hH10.1
        clear hH10
        go_wp2_with fail
        go_ret
        exact ⟨rfl, HB.out⟩

theorem widens_walk (a b c d : Int) (f : Nat → Int) (A : Option Addr) (k cap : Nat) (w : World) (hk : k ≤ 9223372036854775807) (_ : k ≤ cap) (hI : Ints w A k f) : Calls Tryd.prog 6 #[.agg #[.int .i64 a, .int .i64 b], .agg #[.int .i64 c, .int .i64 d], .slice A k cap] w (RetTrue w) := by
  by_cases h : 50 < k
  · exact widens_much a b c d A k cap w h hk
  · exact widens_few f a b c d A k cap w (by omega) hI
end Go.Proofs.YtkcmapbnconkjaaDoor
