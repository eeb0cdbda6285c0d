/- The body of SpanSound, walked: in whatever order Go takes its first statement. -/
import Derived.Test.YtfdojbeckadalaaDoorAlive
import Derived.Test.YtfdojbeckadalaaDoorSoundNums
import Derived.Test.YtfdojbeckadalaaDoorOfExact
namespace Go.Proofs.YtfdojbeckadalaaDoor
open Go.RowKit
attribute [local go_sem ↓] Go.wp_at_zero Go.wp_at_succ eq24 eq23 neq24 eqg24 eqg23

/-- Two spans, each in a block of its own, and the third numbers of both arrays. -/
def SK (w wx : World) (g7 g8 : Nat) (a b c d x y : Int) : Prop :=
  Box wx g7 a b ∧ Box wx g8 c d ∧ w.heap.size + 1 < wx.heap.size ∧ wx.cell? ⟨w.heap.size, 2, none⟩ = some (.int .i64 x) ∧ wx.cell? ⟨w.heap.size + 1, 2, none⟩ = some (.int .i64 y) ∧ Below w.heap.size w wx
theorem SK.below {w wx w1 : World} {g7 g8 : Nat} {a b c d x y : Int} (h : SK w wx g7 g8 a b c d x y) (hb : Below wx.heap.size wx w1) : SK w w1 g7 g8 a b c d x y := by
  obtain ⟨h1, h2, h3, h4, h5, h6⟩ := h
  exact ⟨h1.below hb, h2.below hb, by have := hb.size; omega, by rw [(bcell hb).1 _ _ (by omega)]; exact h4, by rw [(bcell hb).1 _ _ h3]; exact h5, h6.trans (hb.mono (by omega))⟩
/-- What stands behind 'a, b := Of(p..), Of(q..)'. -/
def SoundCut (w : World) (a b c d x y : Int) (s7 s8 : Value) (wx : World) : Prop :=
  ∃ g7 g8 : Nat, s7 = .pointer (some ⟨g7, 0, none⟩) ∧ s8 = .pointer (some ⟨g8, 0, none⟩) ∧ SK w wx g7 g8 a b c d x y

theorem box_here {Y : World} {t g : Nat} {a b : Int} (hg : Y.heap.size = g) : Box (Y.alloc (.cells #[.int .i64 a, .int .i64 b] t)) g a b := by subst hg; exact box_new Y t a b
theorem box_past {Y : World} {g : Nat} {a b : Int} (x : Box Y g a b) (o : Obj) : Box (Y.alloc o) g a b := x.below ((Below.refl _ _).alloc (Nat.le_refl _) o)
theorem box_drew {Y : World} {g : Nat} {a b : Int} (x : Box Y g a b) : Box Y.drew g a b := x

/-- Both arrays, in a world that has them as they were laid. -/
theorem arrays_in {w wx : World} {p0 p1 x q0 q1 y : Int} (hb : Below (w.heap.size + 1 + 1) ((w.alloc (.cells #[.int .i64 p0, .int .i64 p1, .int .i64 x] 44)).alloc (.cells #[.int .i64 q0, .int .i64 q1, .int .i64 y] 44)) wx) :
    wx.cell? ⟨w.heap.size, 0, none⟩ = some (.int .i64 p0) ∧ wx.cell? ⟨w.heap.size, 1, none⟩ = some (.int .i64 p1) ∧ wx.cell? ⟨w.heap.size + 1, 0, none⟩ = some (.int .i64 q0) ∧ wx.cell? ⟨w.heap.size + 1, 1, none⟩ = some (.int .i64 q1) := by
  refine ⟨?_, ?_, ?_, ?_⟩
  all_goals
    rw [hb.cell (by simp <;> omega)]
    go_simp
theorem thirds_in {w wx : World} {p0 p1 x q0 q1 y : Int} (hb : Below (w.heap.size + 1 + 1) ((w.alloc (.cells #[.int .i64 p0, .int .i64 p1, .int .i64 x] 44)).alloc (.cells #[.int .i64 q0, .int .i64 q1, .int .i64 y] 44)) wx) :
    w.heap.size + 1 < wx.heap.size ∧ wx.cell? ⟨w.heap.size, 2, none⟩ = some (.int .i64 x) ∧ wx.cell? ⟨w.heap.size + 1, 2, none⟩ = some (.int .i64 y) ∧ Below w.heap.size w wx := by
  refine ⟨by have := hb.size; simp at this; omega, ?_, ?_, (((Below.refl w.heap.size w).alloc (Nat.le_refl _) _).alloc (by simp) _).trans (hb.mono (by omega))⟩
  all_goals
    rw [hb.cell (by simp <;> omega)]
    go_simp

set_option maxRecDepth 100000 in
set_option maxHeartbeats 6400000 in
theorem sound_all (op p0 p1 x q0 q1 y : Int) (w : World) (L1 H1 L2 H2 : Int) (e1 : ofL p0 p1 = L1) (e2 : ofH p0 p1 = H1) (e3 : ofL q0 q1 = L2) (e4 : ofH q0 q1 = H2) (L H : Int) (O : Bool) (n k : Int)
    (hcs : (hasS L1 H1 x = false) ∨ (hasS L1 H1 x = true ∧ hasS L2 H2 y = false) ∨ (hasS L1 H1 x = true ∧ hasS L2 H2 y = true ∧ decide (op < 0) = true) ∨ (hasS L1 H1 x = true ∧ hasS L2 H2 y = true ∧ decide (op < 0) = false ∧ decide (3 < op) = true) ∨
      (hasS L1 H1 x = true ∧ hasS L2 H2 y = true ∧ decide (op < 0) = false ∧ decide (3 < op) = false ∧ (∀ w, Calls Tryd.prog 26 #[.int .i64 op, .agg #[.int .i64 L1, .int .i64 H1], .agg #[.int .i64 L2, .int .i64 H2]] w (RetCalc L H O w)) ∧
        (∀ w, Calls Tryd.prog 28 #[.int .i64 op, .int .i64 x, .int .i64 y] w fun e w' => e = .returned (.tuple #[.int .i64 n, .int .i64 k]) ∧ w = w') ∧ ((k = 0 ∧ hasS L H n = true) ∨ ((k = 10 ∨ k = 11) ∧ O = true)))) :
    Calls Tryd.prog 6 #[.int .i64 op, .agg #[.int .i64 p0, .int .i64 p1, .int .i64 x], .agg #[.int .i64 q0, .int .i64 q1, .int .i64 y]] w (RetTrue w) := by
  have m1 := of_makes p0 p1
  have m2 := of_makes q0 q1
  unfold OfMakes at m1 m2
  rw [e1, e2] at m1
  rw [e3, e4] at m2
  have N1 := Lib.hid m1
  have N2 := Lib.hid m2
  have HC := Lib.hid hcs
  clear e1 e2 e3 e4 m1 m2 hcs
  go_enter Tryd.func6, Tryd.ntmps6
  go_upto_region 1 with fail
  go_cut [7, 8] (fun s7 s8 wx => SoundCut w L1 H1 L2 H2 x y s7 s8 wx)
  case first =>
    rcases N1.out with m1 | m1 <;> rcases N2.out with m2 | m2
    all_goals
      have M1 := Lib.hid m1
      have M2 := Lib.hid m2
      clear m1 m2
      go_region_held3 (fun w' => w'.cell? ⟨w.heap.size, 0, none⟩ = some (.int .i64 p0) ∧ w'.cell? ⟨w.heap.size, 1, none⟩ = some (.int .i64 p1) ∧ w'.cell? ⟨w.heap.size + 1, 0, none⟩ = some (.int .i64 q0) ∧ w'.cell? ⟨w.heap.size + 1, 1, none⟩ = some (.int .i64 q1)) (exact arrays_in (by repeat (first | exact Below.refl _ _ | refine Below.drew ?_ | refine Below.alloc ?_ (by simp <;> omega) _ | refine Below.setCell ?_ (by simp <;> omega) _)))
        (first
          | (go_at_call 24; ((with_reducible refine (M1.out _).mono ?_); rintro e w' ⟨rfl, rfl⟩))
          | (go_at_call 24; ((with_reducible refine (M2.out _).mono ?_); rintro e w' ⟨rfl, rfl⟩)))
      all_goals go_wp2_with fail
      all_goals go_meet
      all_goals
        refine ⟨_, _, rfl, rfl, ?_, ?_, thirds_in (p0 := p0) (p1 := p1) (q0 := q0) (q1 := q1) ?_⟩
        · refine box_drew ?_
          repeat (first | (refine box_here ?_; (simp; done)) | refine box_past ?_ _)
        · refine box_drew ?_
          repeat (first | (refine box_here ?_; (simp; done)) | refine box_past ?_ _)
        · repeat (first | exact Below.refl _ _ | refine Below.drew ?_ | refine Below.alloc ?_ (by simp <;> omega) _ | refine Below.setCell ?_ (by simp <;> omega) _)
  case rest =>
    obtain ⟨g7, g8, rfl, rfl, hsk⟩ := hcut
    have K0 := Lib.hid hsk
    obtain ⟨⟨z7, a0, a1, af0, af1⟩, ⟨z8, b0, b1, bf0, bf1⟩, hz, hx, hy, -⟩ := hsk
    rcases HC.out with h | ⟨h, h'⟩ | ⟨h, h', h2⟩ | ⟨h, h', h2, h3⟩ | ⟨h, h', h2, h3, hcalc, hbc, hend⟩
    · go_wp2_with (first | (go_at_call 20; ((with_reducible refine (has_any L1 H1 x _).mono ?_); rintro e w1 ⟨rfl, hb1⟩); have K1 := Lib.hid (K0.out.below hb1); clear hb1; clear z7 a0 a1 af0 af1 z8 b0 b1 bf0 bf1 hz hx hy; obtain ⟨⟨z7, a0, a1, af0, af1⟩, ⟨z8, b0, b1, bf0, bf1⟩, hz, hx, hy, -⟩ := K1.out) | (go_at_call 11; ((with_reducible refine (alive_any _).mono ?_); rintro e w5 ⟨rfl, hb5⟩)))
      go_ret
      exact ⟨rfl, below_trans K1.out.2.2.2.2.2 hb5⟩
    · go_wp2_with fail
      refine (has_any L1 H1 x _).mono ?_
      rintro e w1 ⟨rfl, hb1⟩
      have K1 := Lib.hid (K0.out.below hb1)
      clear hb1
      clear z7 a0 a1 af0 af1 z8 b0 b1 bf0 bf1 hz hx hy; obtain ⟨⟨z7, a0, a1, af0, af1⟩, ⟨z8, b0, b1, bf0, bf1⟩, hz, hx, hy, -⟩ := K1.out
      go_wp2_with fail
      refine (has_any L2 H2 y _).mono ?_
      rintro e w2 ⟨rfl, hb2⟩
      have K2 := Lib.hid (K1.out.below hb2)
      clear hb2
      clear z7 a0 a1 af0 af1 z8 b0 b1 bf0 bf1 hz hx hy; obtain ⟨⟨z7, a0, a1, af0, af1⟩, ⟨z8, b0, b1, bf0, bf1⟩, hz, hx, hy, -⟩ := K2.out
      go_wp2_with (first | (go_at_call 11; ((with_reducible refine (alive_any _).mono ?_); rintro e w5 ⟨rfl, hb5⟩)))
      go_ret
      exact ⟨rfl, below_trans K2.out.2.2.2.2.2 hb5⟩
    · go_wp2_with fail
      refine (has_any L1 H1 x _).mono ?_
      rintro e w1 ⟨rfl, hb1⟩
      have K1 := Lib.hid (K0.out.below hb1)
      clear hb1
      clear z7 a0 a1 af0 af1 z8 b0 b1 bf0 bf1 hz hx hy; obtain ⟨⟨z7, a0, a1, af0, af1⟩, ⟨z8, b0, b1, bf0, bf1⟩, hz, hx, hy, -⟩ := K1.out
      go_wp2_with fail
      refine (has_any L2 H2 y _).mono ?_
      rintro e w2 ⟨rfl, hb2⟩
      have K2 := Lib.hid (K1.out.below hb2)
      clear hb2
      clear z7 a0 a1 af0 af1 z8 b0 b1 bf0 bf1 hz hx hy; obtain ⟨⟨z7, a0, a1, af0, af1⟩, ⟨z8, b0, b1, bf0, bf1⟩, hz, hx, hy, -⟩ := K2.out
      go_wp2_with (first | (go_at_call 11; ((with_reducible refine (alive_any _).mono ?_); rintro e w5 ⟨rfl, hb5⟩)))
      go_ret
      exact ⟨rfl, below_trans K2.out.2.2.2.2.2 hb5⟩
    · go_wp2_with fail
      refine (has_any L1 H1 x _).mono ?_
      rintro e w1 ⟨rfl, hb1⟩
      have K1 := Lib.hid (K0.out.below hb1)
      clear hb1
      clear z7 a0 a1 af0 af1 z8 b0 b1 bf0 bf1 hz hx hy; obtain ⟨⟨z7, a0, a1, af0, af1⟩, ⟨z8, b0, b1, bf0, bf1⟩, hz, hx, hy, -⟩ := K1.out
      go_wp2_with fail
      refine (has_any L2 H2 y _).mono ?_
      rintro e w2 ⟨rfl, hb2⟩
      have K2 := Lib.hid (K1.out.below hb2)
      clear hb2
      clear z7 a0 a1 af0 af1 z8 b0 b1 bf0 bf1 hz hx hy; obtain ⟨⟨z7, a0, a1, af0, af1⟩, ⟨z8, b0, b1, bf0, bf1⟩, hz, hx, hy, -⟩ := K2.out
      go_wp2_with (first | (go_at_call 11; ((with_reducible refine (alive_any _).mono ?_); rintro e w5 ⟨rfl, hb5⟩)))
      go_ret
      exact ⟨rfl, below_trans K2.out.2.2.2.2.2 hb5⟩
    · have HCALC := Lib.hid hcalc
      have HBC := Lib.hid hbc
      clear hcalc hbc
      rcases hend with ⟨rfl, hh⟩ | ⟨rfl | rfl, hO⟩
      · go_wp2_with fail
        refine (has_any L1 H1 x _).mono ?_
        rintro e w1 ⟨rfl, hb1⟩
        have K1 := Lib.hid (K0.out.below hb1)
        clear hb1
        clear z7 a0 a1 af0 af1 z8 b0 b1 bf0 bf1 hz hx hy; obtain ⟨⟨z7, a0, a1, af0, af1⟩, ⟨z8, b0, b1, bf0, bf1⟩, hz, hx, hy, -⟩ := K1.out
        go_wp2_with fail
        refine (has_any L2 H2 y _).mono ?_
        rintro e w2 ⟨rfl, hb2⟩
        have K2 := Lib.hid (K1.out.below hb2)
        clear hb2
        clear z7 a0 a1 af0 af1 z8 b0 b1 bf0 bf1 hz hx hy; obtain ⟨⟨z7, a0, a1, af0, af1⟩, ⟨z8, b0, b1, bf0, bf1⟩, hz, hx, hy, -⟩ := K2.out
        go_wp2_with fail
        refine (HCALC.out _).mono ?_
        rintro e w3 ⟨rfl, hb3⟩
        have K3 := Lib.hid (K2.out.below hb3)
        clear hb3
        clear z7 a0 a1 af0 af1 z8 b0 b1 bf0 bf1 hz hx hy; obtain ⟨⟨z7, a0, a1, af0, af1⟩, ⟨z8, b0, b1, bf0, bf1⟩, hz, hx, hy, -⟩ := K3.out
        have hz0 : w.heap.size < w3.heap.size := by omega
        have K4 := Lib.hid (K3.out.below ((Below.refl _ _).alloc (Nat.le_refl _) (.cells #[.int .i64 L, .int .i64 H] 24)))
        have B4 := Lib.hid (box_new w3 24 L H)
        go_wp2_with (first
          | (go_at_call 28; ((with_reducible refine (HBC.out _).mono ?_); rintro e w' ⟨rfl, rfl⟩))
          | (go_at_call 11; ((with_reducible refine (alive_any _).mono ?_); rintro e w5 ⟨rfl, hb5⟩); obtain ⟨y0, y1, y2, y3, y4⟩ := B4.out.below hb5)
          | (go_at_call 20; ((with_reducible refine (has_any L H n _).mono ?_); rintro e w6 ⟨rfl, hb6⟩)))
        go_ret
        exact ⟨rfl, below_trans (below_trans K4.out.2.2.2.2.2 hb5) hb6⟩
      · subst hO
        go_wp2_with fail
        refine (has_any L1 H1 x _).mono ?_
        rintro e w1 ⟨rfl, hb1⟩
        have K1 := Lib.hid (K0.out.below hb1)
        clear hb1
        clear z7 a0 a1 af0 af1 z8 b0 b1 bf0 bf1 hz hx hy; obtain ⟨⟨z7, a0, a1, af0, af1⟩, ⟨z8, b0, b1, bf0, bf1⟩, hz, hx, hy, -⟩ := K1.out
        go_wp2_with fail
        refine (has_any L2 H2 y _).mono ?_
        rintro e w2 ⟨rfl, hb2⟩
        have K2 := Lib.hid (K1.out.below hb2)
        clear hb2
        clear z7 a0 a1 af0 af1 z8 b0 b1 bf0 bf1 hz hx hy; obtain ⟨⟨z7, a0, a1, af0, af1⟩, ⟨z8, b0, b1, bf0, bf1⟩, hz, hx, hy, -⟩ := K2.out
        go_wp2_with fail
        refine (HCALC.out _).mono ?_
        rintro e w3 ⟨rfl, hb3⟩
        have K3 := Lib.hid (K2.out.below hb3)
        clear hb3
        clear z7 a0 a1 af0 af1 z8 b0 b1 bf0 bf1 hz hx hy; obtain ⟨⟨z7, a0, a1, af0, af1⟩, ⟨z8, b0, b1, bf0, bf1⟩, hz, hx, hy, -⟩ := K3.out
        have hz0 : w.heap.size < w3.heap.size := by omega
        have K4 := Lib.hid (K3.out.below ((Below.refl _ _).alloc (Nat.le_refl _) (.cells #[.int .i64 L, .int .i64 H] 24)))
        go_wp2_with (first
          | (go_at_call 28; ((with_reducible refine (HBC.out _).mono ?_); rintro e w' ⟨rfl, rfl⟩))
          | (go_at_call 11; ((with_reducible refine (alive_any _).mono ?_); rintro e w5 ⟨rfl, hb5⟩)))
        go_ret
        exact ⟨rfl, below_trans K4.out.2.2.2.2.2 hb5⟩
      · subst hO
        go_wp2_with fail
        refine (has_any L1 H1 x _).mono ?_
        rintro e w1 ⟨rfl, hb1⟩
        have K1 := Lib.hid (K0.out.below hb1)
        clear hb1
        clear z7 a0 a1 af0 af1 z8 b0 b1 bf0 bf1 hz hx hy; obtain ⟨⟨z7, a0, a1, af0, af1⟩, ⟨z8, b0, b1, bf0, bf1⟩, hz, hx, hy, -⟩ := K1.out
        go_wp2_with fail
        refine (has_any L2 H2 y _).mono ?_
        rintro e w2 ⟨rfl, hb2⟩
        have K2 := Lib.hid (K1.out.below hb2)
        clear hb2
        clear z7 a0 a1 af0 af1 z8 b0 b1 bf0 bf1 hz hx hy; obtain ⟨⟨z7, a0, a1, af0, af1⟩, ⟨z8, b0, b1, bf0, bf1⟩, hz, hx, hy, -⟩ := K2.out
        go_wp2_with fail
        refine (HCALC.out _).mono ?_
        rintro e w3 ⟨rfl, hb3⟩
        have K3 := Lib.hid (K2.out.below hb3)
        clear hb3
        clear z7 a0 a1 af0 af1 z8 b0 b1 bf0 bf1 hz hx hy; obtain ⟨⟨z7, a0, a1, af0, af1⟩, ⟨z8, b0, b1, bf0, bf1⟩, hz, hx, hy, -⟩ := K3.out
        have hz0 : w.heap.size < w3.heap.size := by omega
        have K4 := Lib.hid (K3.out.below ((Below.refl _ _).alloc (Nat.le_refl _) (.cells #[.int .i64 L, .int .i64 H] 24)))
        go_wp2_with (first
          | (go_at_call 28; ((with_reducible refine (HBC.out _).mono ?_); rintro e w' ⟨rfl, rfl⟩))
          | (go_at_call 11; ((with_reducible refine (alive_any _).mono ?_); rintro e w5 ⟨rfl, hb5⟩)))
        go_ret
        exact ⟨rfl, below_trans K4.out.2.2.2.2.2 hb5⟩
end Go.Proofs.YtfdojbeckadalaaDoor
