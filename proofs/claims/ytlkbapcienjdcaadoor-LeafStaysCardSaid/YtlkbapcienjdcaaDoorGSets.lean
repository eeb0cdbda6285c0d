/- Put together of: Sets, Within, Leq. -/
import Derived.Test.YtlkbapcienjdcaaDoorGClose
import Derived.Deep.RegionHeld3
import Derived.Lib.MinMax
import Derived.IntWalk
/- The contracts of Meet and Join: any two zones. -/
namespace Go.Proofs.YtlkbapcienjdcaaDoor
open Go.RowKit
attribute [local go_sem ↓] Go.wp_at_zero Go.wp_at_succ

theorem keep_pair {W X Y : World} (hb : Below X.heap.size X Y) {p q : Nat} {a b c d : Option Value} (h : Below W.heap.size W X ∧ p < X.heap.size ∧ q < X.heap.size ∧ X.cell? ⟨p, 0, none⟩ = a ∧ X.cell? ⟨p, 1, none⟩ = b ∧ X.cell? ⟨q, 0, none⟩ = c ∧ X.cell? ⟨q, 1, none⟩ = d) :
    Below W.heap.size W Y ∧ p < Y.heap.size ∧ q < Y.heap.size ∧ Y.cell? ⟨p, 0, none⟩ = a ∧ Y.cell? ⟨p, 1, none⟩ = b ∧ Y.cell? ⟨q, 0, none⟩ = c ∧ Y.cell? ⟨q, 1, none⟩ = d := by
  obtain ⟨h0, h1, h2, h3, h4, h5, h6⟩ := h
  have hs := hb.size
  exact ⟨h0.trans (hb.mono h0.size), by omega, by omega, (hb.cell (p := ⟨p, 0, none⟩) h1).trans h3, (hb.cell (p := ⟨p, 1, none⟩) h1).trans h4, (hb.cell (p := ⟨q, 0, none⟩) h2).trans h5, (hb.cell (p := ⟨q, 1, none⟩) h2).trans h6⟩

set_option maxRecDepth 100000 in
set_option maxHeartbeats 1600000 in
theorem meet_fn {m i j : Nat} (hm7 : m ≤ 7) (hi : i < m) (hj : j < m) {p q g1 g2 c1 c2 base : Nat} {C D : Mat} {W : World} (h1 : Duo W p 39 (.int .i64 ((m : Int) - 1)) (.slice (some ⟨g1, 0, none⟩) (m * m) c1)) (h2 : Duo W q 39 (.int .i64 ((m : Int) - 1)) (.slice (some ⟨g2, 0, none⟩) (m * m) c2))
    (o1 : W.ownsRow base 3 1 (.slice (some ⟨g1, 0, none⟩) (m * m) c1) (m * m) ((flatL m C).map (Value.int .i64))) (o2 : W.ownsRow base 3 1 (.slice (some ⟨g2, 0, none⟩) (m * m) c2) (m * m) ((flatL m D).map (Value.int .i64))) :
    Calls Tryd.prog 60 #[.int .i64 (i : Int), .int .i64 (j : Int), .pointer (some ⟨p, 0, none⟩), .pointer (some ⟨q, 0, none⟩)] W (ZRetInt (min (C i j) (D i j)) W) := by
  have HA := Lib.hid (fun (X : World) (hb : Below W.heap.size W X) => at_own hm7 hi hj (own_kept_below o1 hb))
  have HB := Lib.hid (fun (X : World) (hb : Below W.heap.size W X) => at_own hm7 hi hj (own_kept_below o2 hb))
  have K0 : Hid (Below W.heap.size W W.drew ∧ p < W.drew.heap.size ∧ q < W.drew.heap.size ∧ W.drew.cell? ⟨p, 0, none⟩ = some (.int .i64 ((m : Int) - 1)) ∧ W.drew.cell? ⟨p, 1, none⟩ = some (.slice (some ⟨g1, 0, none⟩) (m * m) c1) ∧ W.drew.cell? ⟨q, 0, none⟩ = some (.int .i64 ((m : Int) - 1)) ∧ W.drew.cell? ⟨q, 1, none⟩ = some (.slice (some ⟨g2, 0, none⟩) (m * m) c2)) := Lib.hid ⟨(Below.refl _ _).drew, h1.lt, h2.lt, h1.cell0, h1.cell1, h2.cell0, h2.cell1⟩
  generalize C i j = x at *
  generalize D i j = y at *
  clear h1 h2 o1 o2 hi hj
  go_enter Tryd.func60, Tryd.ntmps60
  go_wp2_with fail
  go_region_held3 (fun w' => Below W.heap.size W w' ∧ p < w'.heap.size ∧ q < w'.heap.size ∧ w'.cell? ⟨p, 0, none⟩ = some (.int .i64 ((m : Int) - 1)) ∧ w'.cell? ⟨p, 1, none⟩ = some (.slice (some ⟨g1, 0, none⟩) (m * m) c1) ∧ w'.cell? ⟨q, 0, none⟩ = some (.int .i64 ((m : Int) - 1)) ∧ w'.cell? ⟨q, 1, none⟩ = some (.slice (some ⟨g2, 0, none⟩) (m * m) c2))
    (first | (with_reducible exact K0.out) | (with_reducible exact keep_pair hb1 K0.out) | (with_reducible exact keep_pair hb2 (keep_pair hb1 K0.out)))
    (first
      | (go_at_call 53; ((with_reducible refine (HA.out _ K0.out.1).mono ?_); rintro e w1 ⟨rfl, hb1⟩))
      | (go_at_call 53; ((with_reducible refine (HB.out _ (K0.out.1.trans (hb1.mono K0.out.1.size))).mono ?_); rintro e w2 ⟨rfl, hb2⟩)))
  all_goals go_wp2_with fail
  go_ret
  exact ⟨rfl, (K0.out.1.trans (hb1.mono K0.out.1.size)).trans (hb2.mono (K0.out.1.trans (hb1.mono K0.out.1.size)).size)⟩

set_option maxRecDepth 100000 in
set_option maxHeartbeats 1600000 in
theorem join_fn {m i j : Nat} (hm7 : m ≤ 7) (hi : i < m) (hj : j < m) {p q g1 g2 c1 c2 base : Nat} {C D : Mat} {W : World} (h1 : Duo W p 39 (.int .i64 ((m : Int) - 1)) (.slice (some ⟨g1, 0, none⟩) (m * m) c1)) (h2 : Duo W q 39 (.int .i64 ((m : Int) - 1)) (.slice (some ⟨g2, 0, none⟩) (m * m) c2))
    (o1 : W.ownsRow base 3 1 (.slice (some ⟨g1, 0, none⟩) (m * m) c1) (m * m) ((flatL m C).map (Value.int .i64))) (o2 : W.ownsRow base 3 1 (.slice (some ⟨g2, 0, none⟩) (m * m) c2) (m * m) ((flatL m D).map (Value.int .i64))) :
    Calls Tryd.prog 59 #[.int .i64 (i : Int), .int .i64 (j : Int), .pointer (some ⟨p, 0, none⟩), .pointer (some ⟨q, 0, none⟩)] W (ZRetInt (max (C i j) (D i j)) W) := by
  have HA := Lib.hid (fun (X : World) (hb : Below W.heap.size W X) => at_own hm7 hi hj (own_kept_below o1 hb))
  have HB := Lib.hid (fun (X : World) (hb : Below W.heap.size W X) => at_own hm7 hi hj (own_kept_below o2 hb))
  have K0 : Hid (Below W.heap.size W W.drew ∧ p < W.drew.heap.size ∧ q < W.drew.heap.size ∧ W.drew.cell? ⟨p, 0, none⟩ = some (.int .i64 ((m : Int) - 1)) ∧ W.drew.cell? ⟨p, 1, none⟩ = some (.slice (some ⟨g1, 0, none⟩) (m * m) c1) ∧ W.drew.cell? ⟨q, 0, none⟩ = some (.int .i64 ((m : Int) - 1)) ∧ W.drew.cell? ⟨q, 1, none⟩ = some (.slice (some ⟨g2, 0, none⟩) (m * m) c2)) := Lib.hid ⟨(Below.refl _ _).drew, h1.lt, h2.lt, h1.cell0, h1.cell1, h2.cell0, h2.cell1⟩
  generalize C i j = x at *
  generalize D i j = y at *
  clear h1 h2 o1 o2 hi hj
  go_enter Tryd.func59, Tryd.ntmps59
  go_wp2_with fail
  go_region_held3 (fun w' => Below W.heap.size W w' ∧ p < w'.heap.size ∧ q < w'.heap.size ∧ w'.cell? ⟨p, 0, none⟩ = some (.int .i64 ((m : Int) - 1)) ∧ w'.cell? ⟨p, 1, none⟩ = some (.slice (some ⟨g1, 0, none⟩) (m * m) c1) ∧ w'.cell? ⟨q, 0, none⟩ = some (.int .i64 ((m : Int) - 1)) ∧ w'.cell? ⟨q, 1, none⟩ = some (.slice (some ⟨g2, 0, none⟩) (m * m) c2))
    (first | (with_reducible exact K0.out) | (with_reducible exact keep_pair hb1 K0.out) | (with_reducible exact keep_pair hb2 (keep_pair hb1 K0.out)))
    (first
      | (go_at_call 53; ((with_reducible refine (HA.out _ K0.out.1).mono ?_); rintro e w1 ⟨rfl, hb1⟩))
      | (go_at_call 53; ((with_reducible refine (HB.out _ (K0.out.1.trans (hb1.mono K0.out.1.size))).mono ?_); rintro e w2 ⟨rfl, hb2⟩)))
  all_goals go_wp2_with fail
  go_ret
  exact ⟨rfl, (K0.out.1.trans (hb1.mono K0.out.1.size)).trans (hb2.mono (K0.out.1.trans (hb1.mono K0.out.1.size)).size)⟩

/-- Three boxes of zones. -/
def Thr (w W : World) (a b c a' b' c' : Value) : Prop := Duo W w.heap.size 39 a a' ∧ Duo W (w.heap.size + 1) 39 b b' ∧ Duo W (w.heap.size + 1 + 1) 39 c c' ∧ Below w.heap.size w W
theorem Thr.below {w W W1 : World} {a b c a' b' c' : Value} (h : Thr w W a b c a' b' c') (hb : Below W.heap.size W W1) : Thr w W1 a b c a' b' c' := ⟨h.1.below hb, h.2.1.below hb, h.2.2.1.below hb, h.2.2.2.trans (hb.mono h.2.2.2.size)⟩
theorem thr_new (w : World) (a b c a' b' c' : Value) : Thr w (((w.alloc (.cells #[a, a'] 39)).alloc (.cells #[b, b'] 39)).alloc (.cells #[c, c'] 39)) a b c a' b' c' := by
  have h1 := Duo.new (w.alloc (.cells #[a, a'] 39)) 39 b b'
  have h2 := Duo.new ((w.alloc (.cells #[a, a'] 39)).alloc (.cells #[b, b'] 39)) 39 c c'
  simp only [World.size_alloc] at h1 h2
  exact ⟨((Duo.new w _ _ _).alloc _).alloc _, h1.alloc _, h2, (((Below.refl _ w).alloc (Nat.le_refl _) _).alloc (by simp) _).alloc (by simp; omega) _⟩
theorem Thr.put {w W : World} {a b c a' b' c' : Value} (h : Thr w W a b c a' b' c') (x y x' y' : Value) :
    Thr w ((((W.setCell ⟨w.heap.size, 0, none⟩ x).setCell ⟨w.heap.size, 1, none⟩ x').setCell ⟨w.heap.size + 1, 0, none⟩ y).setCell ⟨w.heap.size + 1, 1, none⟩ y') x y c x' y' c' := by
  obtain ⟨h1, h2, h3, h5⟩ := h
  refine ⟨(((h1.set0 x).set1 x').other (by simp) _).other (by simp) _, ((((h2.other (by simp) _).other (by simp) _).set0 y).set1 y'), (((h3.other (by simp; omega) _).other (by simp; omega) _).other (by simp) _).other (by simp) _, ?_⟩
  exact (((h5.setCell (p := ⟨w.heap.size, 0, none⟩) (by simp) _).setCell (p := ⟨w.heap.size, 1, none⟩) (by simp) _).setCell (p := ⟨w.heap.size + 1, 0, none⟩) (by simp) _).setCell (p := ⟨w.heap.size + 1, 1, none⟩) (by simp) _
/-- The result, put into the third box. -/
theorem Thr.last {w W : World} {a b c a' b' c' : Value} (h : Thr w W a b c a' b' c') (x x' : Value) : Duo ((W.setCell ⟨w.heap.size + 1 + 1, 0, none⟩ x).setCell ⟨w.heap.size + 1 + 1, 1, none⟩ x') (w.heap.size + 1 + 1) 39 x x' ∧ Below w.heap.size w ((W.setCell ⟨w.heap.size + 1 + 1, 0, none⟩ x).setCell ⟨w.heap.size + 1 + 1, 1, none⟩ x') :=
  ⟨(h.2.2.1.set0 x).set1 x', (h.2.2.2.setCell (p := ⟨w.heap.size + 1 + 1, 0, none⟩) (by simp; omega) x).setCell (p := ⟨w.heap.size + 1 + 1, 1, none⟩) (by simp; omega) x'⟩
/-- Behind 'a, b, fit := two(a, b)'. -/
def Mid (w : World) (ma mb : Nat) (Ra Rb : Option Mat) (t : Value) (wx : World) : Prop :=
  ∃ A ca B cb, t = .bool (!decide (ma = mb)) ∧ ZRes wx w.heap.size ma Ra (zoneV ((ma : Int) - 1) A (rlen ma Ra) ca) ∧ ZRes wx w.heap.size mb Rb (zoneV ((mb : Int) - 1) B (rlen mb Rb) cb) ∧
    Thr w wx (.int .i64 ((ma : Int) - 1)) (.int .i64 ((mb : Int) - 1)) (.int .i64 0) (.slice A (rlen ma Ra) ca) (.slice B (rlen mb Rb) cb) (.slice none 0 0)
theorem mid_mk {w W w1 : World} {ma mb : Nat} {Ra Rb : Option Mat} {a b a' b' : Value} {A B : Option Addr} {c1 c2 : Nat} (hF : Thr w W a b (.int .i64 0) a' b' (.slice none 0 0)) (hb1 : Below W.heap.size W w1)
    (hz1 : ZRes w1 W.heap.size ma Ra (zoneV ((ma : Int) - 1) A (rlen ma Ra) c1)) (hz2 : ZRes w1 W.heap.size mb Rb (zoneV ((mb : Int) - 1) B (rlen mb Rb) c2)) :
    Mid w ma mb Ra Rb (.bool (!decide (ma = mb))) ((((w1.setCell ⟨w.heap.size, 0, none⟩ (.int .i64 ((ma : Int) - 1))).setCell ⟨w.heap.size, 1, none⟩ (.slice A (rlen ma Ra) c1)).setCell ⟨w.heap.size + 1, 0, none⟩ (.int .i64 ((mb : Int) - 1))).setCell ⟨w.heap.size + 1, 1, none⟩ (.slice B (rlen mb Rb) c2)) := by
  have hsz : w.heap.size + 1 + 1 < W.heap.size := hF.2.2.1.lt
  have q1 := (((hz1.setCell (a := ⟨w.heap.size, 0, none⟩) (by simp; omega) (.int .i64 ((ma : Int) - 1))).setCell (a := ⟨w.heap.size, 1, none⟩) (by simp; omega) (.slice A (rlen ma Ra) c1)).setCell (a := ⟨w.heap.size + 1, 0, none⟩) (by simp; omega) (.int .i64 ((mb : Int) - 1))).setCell (a := ⟨w.heap.size + 1, 1, none⟩) (by simp; omega) (.slice B (rlen mb Rb) c2)
  have q2 := (((hz2.setCell (a := ⟨w.heap.size, 0, none⟩) (by simp; omega) (.int .i64 ((ma : Int) - 1))).setCell (a := ⟨w.heap.size, 1, none⟩) (by simp; omega) (.slice A (rlen ma Ra) c1)).setCell (a := ⟨w.heap.size + 1, 0, none⟩) (by simp; omega) (.int .i64 ((mb : Int) - 1))).setCell (a := ⟨w.heap.size + 1, 1, none⟩) (by simp; omega) (.slice B (rlen mb Rb) c2)
  exact ⟨A, c1, B, c2, rfl, q1.lower (by omega), q2.lower (by omega), (hF.below hb1).put _ _ _ _⟩

/-- What is in both. -/
def minM (C D : Mat) : Mat := fun i j => min (C i j) (D i j)
def maxM (C D : Mat) : Mat := fun i j => max (C i j) (D i j)
def setR (m : Nat) (A : Mat) : Option Mat := if aliveB m A = true then some (lev A m) else none
theorem setR_yes {m : Nat} {A : Mat} (h : Alive m A) : setR m A = some (lev A m) := if_pos ((aliveB_iff _ _).2 h)
theorem setR_no {m : Nat} {A : Mat} (h : ¬ Alive m A) : setR m A = none := if_neg (fun e => h ((aliveB_iff _ _).1 e))
def mtR (m : Nat) : Option Mat → Option Mat → Option Mat
  | some C, some D => setR m (minM C D)
  | _, _ => none
/-- One walk to where both are known, for each case. -/
theorem sq_pos {m : Nat} (h0 : 0 < m) : decide (m * m = 0) = false := decide_eq_false (by have := Nat.mul_pos h0 h0; omega)
theorem zres_some {W : World} {base m L c : Nat} {C : Mat} {A : Option Addr} (h : ZRes W base m (some C) (zoneV ((m : Int) - 1) A L c)) : ∃ g, A = some ⟨g, 0, none⟩ ∧ Closed m C ∧ W.ownsRow base 3 1 (.slice (some ⟨g, 0, none⟩) (m * m) c) (m * m) ((flatL m C).map (Value.int .i64)) := by
  obtain ⟨hC, g, cap, e, ho⟩ := h
  injection e with e
  simp at e
  obtain ⟨e1, e2, e3⟩ := e
  subst e1
  subst e3
  exact ⟨g, rfl, hC, ho⟩
theorem max_closed {m : Nat} {C D : Mat} (h : Closed m C) (g : Closed m D) : Closed m (maxM C D) := by
  refine ⟨fun i hi => ?_, fun i j hi hj => ?_, fun k i j hk hi hj => ?_⟩ <;> unfold maxM
  · rw [h.diag i hi, g.diag i hi]; rfl
  · have h1 := h.near i j hi hj
    have h2 := g.near i j hi hj
    omega
  · have h1 := h.tri k i j hk hi hj
    have h2 := g.tri k i j hk hi hj
    omega

set_option maxRecDepth 100000 in
set_option maxHeartbeats 3200000 in
theorem meet_off {w : World} {Na Nb : Int} {Aa Ab : Option Addr} {la lb ca cb ma mb : Nat} {Ra Rb : Option Mat} (hm : ma ≠ mb)
    (K : ∀ W, Below w.heap.size w W → Calls Tryd.prog 35 #[zoneV Na Aa la ca, zoneV Nb Ab lb cb] W (RetTwo W ma mb Ra Rb)) :
    Calls Tryd.prog 38 #[zoneV Na Aa la ca, zoneV Nb Ab lb cb] w (RetC w 1 none) := by
  have HT := Lib.hid (thr_new w (.int .i64 Na) (.int .i64 Nb) (.int .i64 0) (.slice Aa la ca) (.slice Ab lb cb) (.slice none 0 0))
  have HK := Lib.hid (K _ HT.out.2.2.2)
  clear K
  have HM0 := Lib.hid hm
  clear hm
  go_enter Tryd.func38, Tryd.ntmps38
  go_upto_region 2 with (go_at_call 35; refine HK.out.mono ?_; rintro e w1 ⟨A, c1, B, c2, rfl, hz1, hz2, hb1⟩; have hF1 := HT.out.below hb1; have y0 := hF1.1.cell0; have y1 := hF1.1.cell1; have y2 := hF1.2.1.cell0; have y3 := hF1.2.1.cell1; have y4 := hF1.1.frozen0; have y5 := hF1.1.frozen1; have y6 := hF1.2.1.frozen0; have y7 := hF1.2.1.frozen1)
  go_cut [13] (fun t wx => Mid w ma mb Ra Rb t wx)
  case first =>
    have hM := mid_mk HT.out hb1 hz1 hz2
    have HM := Lib.hid hM
    clear hM hz1 hz2 hb1 hF1
    go_wp2_with fail
    go_meet
    exact HM.out
  case rest =>
    clear y0 y1 y2 y3 y4 y5 y6 y7 hF1 hz1 hz2 hb1 HK
    obtain ⟨A, c1, B, c2, ht, hz1, hz2, hF⟩ := hcut
    rw [show (!decide (ma = mb)) = true by rw [decide_eq_false HM0.out]; rfl] at ht
    subst ht
    have HZ1 := Lib.hid hz1
    have HZ2 := Lib.hid hz2
    have HF := Lib.hid hF
    clear hz1 hz2 hF HT
    have k0 := HF.out.1.cell0
    have k1 := HF.out.1.cell1
    have k2 := HF.out.2.1.cell0
    have k3 := HF.out.2.1.cell1
    go_wp2_with (go_at_call 20; refine (bottom_any _ _).mono ?_; rintro e w2 ⟨rfl, hb2⟩; have hF2 := HF.out.below hb2; have d0 := hF2.2.2.1.cell0; have d1 := hF2.2.2.1.cell1; have f0 := hF2.2.2.1.frozen0; have f1 := hF2.2.2.1.frozen1)
    have hL := hF2.last (.int .i64 0) (.slice none 0 0)
    exact post_cell (rb := w.heap.size + 1 + 1) Tryd.results38 rfl rfl hL.1 ⟨none, 0, rfl, rfl, hL.2⟩

set_option maxRecDepth 100000 in
set_option maxHeartbeats 3200000 in
theorem meet_na {w : World} {Na Nb : Int} {Aa Ab : Option Addr} {la lb ca cb m : Nat} {Rb : Option Mat} (h0 : 0 < m) (h7 : m ≤ 7)
    (K : ∀ W, Below w.heap.size w W → Calls Tryd.prog 35 #[zoneV Na Aa la ca, zoneV Nb Ab lb cb] W (RetTwo W m m none Rb)) :
    Calls Tryd.prog 38 #[zoneV Na Aa la ca, zoneV Nb Ab lb cb] w (RetC w m none) := by
  have HT := Lib.hid (thr_new w (.int .i64 Na) (.int .i64 Nb) (.int .i64 0) (.slice Aa la ca) (.slice Ab lb cb) (.slice none 0 0))
  have HK := Lib.hid (K _ HT.out.2.2.2)
  clear K
  go_enter Tryd.func38, Tryd.ntmps38
  go_upto_region 2 with (go_at_call 35; refine HK.out.mono ?_; rintro e w1 ⟨A, c1, B, c2, rfl, hz1, hz2, hb1⟩; have hF1 := HT.out.below hb1; have y0 := hF1.1.cell0; have y1 := hF1.1.cell1; have y2 := hF1.2.1.cell0; have y3 := hF1.2.1.cell1; have y4 := hF1.1.frozen0; have y5 := hF1.1.frozen1; have y6 := hF1.2.1.frozen0; have y7 := hF1.2.1.frozen1)
  go_cut [13] (fun t wx => Mid w m m none Rb t wx)
  case first =>
    have hM := mid_mk HT.out hb1 hz1 hz2
    rw [show (!decide (m = m)) = false by simp] at hM
    have HM := Lib.hid hM
    clear hM hz1 hz2 hb1 hF1
    go_wp2_with fail
    go_meet
    exact HM.out
  case rest =>
    clear y0 y1 y2 y3 y4 y5 y6 y7 hF1 hz1 hz2 hb1 HK
    obtain ⟨A, c1, B, c2, ht, hz1, hz2, hF⟩ := hcut
    rw [show (!decide (m = m)) = false by simp] at ht
    subst ht
    have HZ1 := Lib.hid hz1
    have HZ2 := Lib.hid hz2
    have HF := Lib.hid hF
    clear hz1 hz2 hF HT
    have k0 := HF.out.1.cell0
    have k1 := HF.out.1.cell1
    have k2 := HF.out.2.1.cell0
    have k3 := HF.out.2.1.cell1
    have e0 : rlen m (none : Option Mat) = 0 := rfl
    go_wp2_with fail
    refine (none_any _ _ _ _ _).mono ?_
    rintro e w3 ⟨rfl, hb3⟩
    have HF3 := Lib.hid (HF.out.below hb3)
    have HZ3 := Lib.hid (HZ1.out.below hb3)
    have HZ4 := Lib.hid (HZ2.out.below hb3)
    clear hb3 k0 k1 k2 k3
    have k0 := HF3.out.1.cell0
    have k1 := HF3.out.1.cell1
    have k2 := HF3.out.2.1.cell0
    have k3 := HF3.out.2.1.cell1
    have hbN : botN ((m : Int) - 1) = (m : Int) - 1 := by unfold botN; rw [if_pos (zm_of h0 h7).1]
    have HN := Lib.hid hbN
    clear hbN
    go_wp2_with (go_at_call 20; refine (bottom_any _ _).mono ?_; rintro e w2 ⟨rfl, hb2⟩; have hF2 := HF3.out.below hb2; have d0 := hF2.2.2.1.cell0; have d1 := hF2.2.2.1.cell1; have f0 := hF2.2.2.1.frozen0; have f1 := hF2.2.2.1.frozen1)
    rw [HN.out]
    have hL := hF2.last (.int .i64 ((m : Int) - 1)) (.slice none 0 0)
    exact post_cell (rb := w.heap.size + 1 + 1) Tryd.results38 rfl rfl hL.1 ⟨none, 0, rfl, rfl, hL.2⟩

set_option maxRecDepth 100000 in
set_option maxHeartbeats 3200000 in
theorem meet_nb {w : World} {Na Nb : Int} {Aa Ab : Option Addr} {la lb ca cb m : Nat} {C : Mat} (h0 : 0 < m) (h7 : m ≤ 7)
    (K : ∀ W, Below w.heap.size w W → Calls Tryd.prog 35 #[zoneV Na Aa la ca, zoneV Nb Ab lb cb] W (RetTwo W m m (some C) none)) :
    Calls Tryd.prog 38 #[zoneV Na Aa la ca, zoneV Nb Ab lb cb] w (RetC w m none) := by
  have HT := Lib.hid (thr_new w (.int .i64 Na) (.int .i64 Nb) (.int .i64 0) (.slice Aa la ca) (.slice Ab lb cb) (.slice none 0 0))
  have HK := Lib.hid (K _ HT.out.2.2.2)
  clear K
  go_enter Tryd.func38, Tryd.ntmps38
  go_upto_region 2 with (go_at_call 35; refine HK.out.mono ?_; rintro e w1 ⟨A, c1, B, c2, rfl, hz1, hz2, hb1⟩; have hF1 := HT.out.below hb1; have y0 := hF1.1.cell0; have y1 := hF1.1.cell1; have y2 := hF1.2.1.cell0; have y3 := hF1.2.1.cell1; have y4 := hF1.1.frozen0; have y5 := hF1.1.frozen1; have y6 := hF1.2.1.frozen0; have y7 := hF1.2.1.frozen1)
  go_cut [13] (fun t wx => Mid w m m (some C) none t wx)
  case first =>
    have hM := mid_mk HT.out hb1 hz1 hz2
    rw [show (!decide (m = m)) = false by simp] at hM
    have HM := Lib.hid hM
    clear hM hz1 hz2 hb1 hF1
    go_wp2_with fail
    go_meet
    exact HM.out
  case rest =>
    clear y0 y1 y2 y3 y4 y5 y6 y7 hF1 hz1 hz2 hb1 HK
    obtain ⟨A, c1, B, c2, ht, hz1, hz2, hF⟩ := hcut
    rw [show (!decide (m = m)) = false by simp] at ht
    subst ht
    have HZ1 := Lib.hid hz1
    have HZ2 := Lib.hid hz2
    have HF := Lib.hid hF
    clear hz1 hz2 hF HT
    have k0 := HF.out.1.cell0
    have k1 := HF.out.1.cell1
    have k2 := HF.out.2.1.cell0
    have k3 := HF.out.2.1.cell1
    have e0 : rlen m (none : Option Mat) = 0 := rfl
    have e1 : rlen m (some C) = m * m := rfl
    have e2 := sq_pos h0
    go_wp2_with fail
    refine (none_any _ _ _ _ _).mono ?_
    rintro e w3 ⟨rfl, hb3⟩
    have HF3 := Lib.hid (HF.out.below hb3)
    have HZ3 := Lib.hid (HZ1.out.below hb3)
    have HZ4 := Lib.hid (HZ2.out.below hb3)
    clear hb3 k0 k1 k2 k3
    have k0 := HF3.out.1.cell0
    have k1 := HF3.out.1.cell1
    have k2 := HF3.out.2.1.cell0
    have k3 := HF3.out.2.1.cell1
    go_wp2_with fail
    refine (none_any _ _ _ _ _).mono ?_
    rintro e w4 ⟨rfl, hb4⟩
    have HF4 := Lib.hid (HF3.out.below hb4)
    have HZ5 := Lib.hid (HZ3.out.below hb4)
    have HZ6 := Lib.hid (HZ4.out.below hb4)
    clear hb4 k0 k1 k2 k3
    have k0 := HF4.out.1.cell0
    have k1 := HF4.out.1.cell1
    have k2 := HF4.out.2.1.cell0
    have k3 := HF4.out.2.1.cell1
    have hbN : botN ((m : Int) - 1) = (m : Int) - 1 := by unfold botN; rw [if_pos (zm_of h0 h7).1]
    have HN := Lib.hid hbN
    clear hbN
    go_wp2_with (go_at_call 20; refine (bottom_any _ _).mono ?_; rintro e w2 ⟨rfl, hb2⟩; have hF2 := HF4.out.below hb2; have d0 := hF2.2.2.1.cell0; have d1 := hF2.2.2.1.cell1; have f0 := hF2.2.2.1.frozen0; have f1 := hF2.2.2.1.frozen1)
    rw [HN.out]
    have hL := hF2.last (.int .i64 ((m : Int) - 1)) (.slice none 0 0)
    exact post_cell (rb := w.heap.size + 1 + 1) Tryd.results38 rfl rfl hL.1 ⟨none, 0, rfl, rfl, hL.2⟩

set_option maxRecDepth 100000 in
set_option maxHeartbeats 3200000 in
theorem meet_pts {w : World} {Na Nb : Int} {Aa Ab : Option Addr} {la lb ca cb m : Nat} {C D : Mat} (h0 : 0 < m) (h7 : m ≤ 7)
    (K : ∀ W, Below w.heap.size w W → Calls Tryd.prog 35 #[zoneV Na Aa la ca, zoneV Nb Ab lb cb] W (RetTwo W m m (some C) (some D))) :
    Calls Tryd.prog 38 #[zoneV Na Aa la ca, zoneV Nb Ab lb cb] w (RetC w m (setR m (minM C D))) := by
  have HT := Lib.hid (thr_new w (.int .i64 Na) (.int .i64 Nb) (.int .i64 0) (.slice Aa la ca) (.slice Ab lb cb) (.slice none 0 0))
  have HK := Lib.hid (K _ HT.out.2.2.2)
  clear K
  go_enter Tryd.func38, Tryd.ntmps38
  go_upto_region 2 with (go_at_call 35; refine HK.out.mono ?_; rintro e w1 ⟨A, c1, B, c2, rfl, hz1, hz2, hb1⟩; have hF1 := HT.out.below hb1; have y0 := hF1.1.cell0; have y1 := hF1.1.cell1; have y2 := hF1.2.1.cell0; have y3 := hF1.2.1.cell1; have y4 := hF1.1.frozen0; have y5 := hF1.1.frozen1; have y6 := hF1.2.1.frozen0; have y7 := hF1.2.1.frozen1)
  go_cut [13] (fun t wx => Mid w m m (some C) (some D) t wx)
  case first =>
    have hM := mid_mk HT.out hb1 hz1 hz2
    rw [show (!decide (m = m)) = false by simp] at hM
    have HM := Lib.hid hM
    clear hM hz1 hz2 hb1 hF1
    go_wp2_with fail
    go_meet
    exact HM.out
  case rest =>
    clear y0 y1 y2 y3 y4 y5 y6 y7 hF1 hz1 hz2 hb1 HK
    obtain ⟨A, c1, B, c2, ht, hz1, hz2, hF⟩ := hcut
    rw [show (!decide (m = m)) = false by simp] at ht
    subst ht
    have HZ1 := Lib.hid hz1
    have HZ2 := Lib.hid hz2
    have HF := Lib.hid hF
    clear hz1 hz2 hF HT
    have k0 := HF.out.1.cell0
    have k1 := HF.out.1.cell1
    have k2 := HF.out.2.1.cell0
    have k3 := HF.out.2.1.cell1
    have e1 : rlen m (some C) = m * m := rfl
    have e2 := sq_pos h0
    have e4 : rlen m (some D) = m * m := rfl
    go_wp2_with fail
    refine (none_any _ _ _ _ _).mono ?_
    rintro e w3 ⟨rfl, hb3⟩
    have HF3 := Lib.hid (HF.out.below hb3)
    have HZ3 := Lib.hid (HZ1.out.below hb3)
    have HZ4 := Lib.hid (HZ2.out.below hb3)
    clear hb3 k0 k1 k2 k3
    have k0 := HF3.out.1.cell0
    have k1 := HF3.out.1.cell1
    have k2 := HF3.out.2.1.cell0
    have k3 := HF3.out.2.1.cell1
    go_wp2_with fail
    refine (none_any _ _ _ _ _).mono ?_
    rintro e w4 ⟨rfl, hb4⟩
    have HF4 := Lib.hid (HF3.out.below hb4)
    have HZ5 := Lib.hid (HZ3.out.below hb4)
    have HZ6 := Lib.hid (HZ4.out.below hb4)
    clear hb4 k0 k1 k2 k3
    have k0 := HF4.out.1.cell0
    have k1 := HF4.out.1.cell1
    have k2 := HF4.out.2.1.cell0
    have k3 := HF4.out.2.1.cell1
    obtain ⟨g1, rfl, hC, o1⟩ := zres_some HZ5.out
    obtain ⟨g2, rfl, hD, o2⟩ := zres_some HZ6.out
    have O1 := Lib.hid o1
    have O2 := Lib.hid o2
    have HC := Lib.hid hC
    have HD := Lib.hid hD
    clear o1 o2 hC hD HZ1 HZ2 HZ3 HZ4 HZ5 HZ6 HF HF3
    go_wp2_with fail
    refine (fill_any 60 #[.pointer (some ⟨w.heap.size, 0, none⟩), .pointer (some ⟨w.heap.size + 1, 0, none⟩)] m h7 h0 (minM C D) _ (enters_of Tryd.func60 (by kernel_rfl) rfl) (fun i j W hi hj hbW => ?_)).mono ?_
    · have hF5 := HF4.out.below hbW
      exact meet_fn h7 hi hj hF5.1 hF5.2.1 (own_kept_below O1.out hbW) (own_kept_below O2.out hbW)
    rintro e w5 ⟨v5, rfl, ho5, hb5⟩
    obtain ⟨g5, c5, rfl⟩ := own_slice ho5 (Nat.mul_pos h0 h0)
    have hF5 := HF4.out.below hb5
    have hg5 := (ho5.lt g5 rfl).1
    have hs4 := HF4.out.2.2.1.lt
    have ho5' := own_lower ho5 HF4.out.2.2.2.size
    have HF5 := Lib.hid hF5
    have HO5 := Lib.hid ho5'
    clear ho5 ho5' hb5 k0 k1 k2 k3 hF5
    go_wp2_with fail
    refine (settle_any m h7 h0 (minM C D) g5 c5 _ w5 (fun i j hi hj => by have h1 := HC.out.bd hi hj; have h2 := HD.out.bd hi hj; unfold minM; omega) HO5.out).mono ?_
    rintro e w6 (⟨ha, rfl, ho6, hg6⟩ | ⟨hna, rfl, hg6⟩)
    · have hD3 := HF5.out.2.2.1.kept hg6 (by simp; omega)
      have hB3 := HF5.out.2.2.2.grown hg6 HF5.out.2.2.2.size (fun r e => by cases e; omega)
      have d0 := hD3.cell0
      have d1 := hD3.cell1
      have f0 := hD3.frozen0
      have f1 := hD3.frozen1
      have HO6 := Lib.hid ho6
      have HB3 := Lib.hid hB3
      clear ho6 hB3 hg6
      go_wp2_with fail
      refine post_cell (rb := w.heap.size + 1 + 1) Tryd.results38 rfl rfl ((hD3.set0 _).set1 _) ?_
      rw [setR_yes ha]
      refine ⟨_, c5, rfl, ⟨lev_closed ha, g5, c5, rfl, ?_⟩, (HB3.out.setCell (p := ⟨w.heap.size + 1 + 1, 0, none⟩) (by simp; omega) _).setCell (p := ⟨w.heap.size + 1 + 1, 1, none⟩) (by simp; omega) _⟩
      exact (HO6.out.kept (duo_grown_setCell _ _ _) (.inr (by simp [Value.ownBlock]; omega))).kept (duo_grown_setCell _ _ _) (.inr (by simp [Value.ownBlock]; omega))
    · have hD3 := HF5.out.2.2.1.kept hg6 (by simp; omega)
      have hB3 := HF5.out.2.2.2.grown hg6 HF5.out.2.2.2.size (fun r e => by cases e; omega)
      have d0 := hD3.cell0
      have d1 := hD3.cell1
      have f0 := hD3.frozen0
      have f1 := hD3.frozen1
      have HB3 := Lib.hid hB3
      clear hB3 hg6
      go_wp2_with fail
      refine post_cell (rb := w.heap.size + 1 + 1) Tryd.results38 rfl rfl ((hD3.set0 _).set1 _) ?_
      rw [setR_no hna]
      exact ⟨none, 0, rfl, rfl, (HB3.out.setCell (p := ⟨w.heap.size + 1 + 1, 0, none⟩) (by simp; omega) _).setCell (p := ⟨w.heap.size + 1 + 1, 1, none⟩) (by simp; omega) _⟩

set_option maxRecDepth 100000 in
set_option maxHeartbeats 3200000 in
theorem join_off {w : World} {Na Nb : Int} {Aa Ab : Option Addr} {la lb ca cb ma mb : Nat} {Ra Rb : Option Mat} (hm : ma ≠ mb)
    (K : ∀ W, Below w.heap.size w W → Calls Tryd.prog 35 #[zoneV Na Aa la ca, zoneV Nb Ab lb cb] W (RetTwo W ma mb Ra Rb)) :
    Calls Tryd.prog 34 #[zoneV Na Aa la ca, zoneV Nb Ab lb cb] w (RetC w 1 none) := by
  have HT := Lib.hid (thr_new w (.int .i64 Na) (.int .i64 Nb) (.int .i64 0) (.slice Aa la ca) (.slice Ab lb cb) (.slice none 0 0))
  have HK := Lib.hid (K _ HT.out.2.2.2)
  clear K
  have HM0 := Lib.hid hm
  clear hm
  go_enter Tryd.func34, Tryd.ntmps34
  go_upto_region 2 with (go_at_call 35; refine HK.out.mono ?_; rintro e w1 ⟨A, c1, B, c2, rfl, hz1, hz2, hb1⟩; have hF1 := HT.out.below hb1; have y0 := hF1.1.cell0; have y1 := hF1.1.cell1; have y2 := hF1.2.1.cell0; have y3 := hF1.2.1.cell1; have y4 := hF1.1.frozen0; have y5 := hF1.1.frozen1; have y6 := hF1.2.1.frozen0; have y7 := hF1.2.1.frozen1)
  go_cut [13] (fun t wx => Mid w ma mb Ra Rb t wx)
  case first =>
    have hM := mid_mk HT.out hb1 hz1 hz2
    have HM := Lib.hid hM
    clear hM hz1 hz2 hb1 hF1
    go_wp2_with fail
    go_meet
    exact HM.out
  case rest =>
    clear y0 y1 y2 y3 y4 y5 y6 y7 hF1 hz1 hz2 hb1 HK
    obtain ⟨A, c1, B, c2, ht, hz1, hz2, hF⟩ := hcut
    rw [show (!decide (ma = mb)) = true by rw [decide_eq_false HM0.out]; rfl] at ht
    subst ht
    have HZ1 := Lib.hid hz1
    have HZ2 := Lib.hid hz2
    have HF := Lib.hid hF
    clear hz1 hz2 hF HT
    have k0 := HF.out.1.cell0
    have k1 := HF.out.1.cell1
    have k2 := HF.out.2.1.cell0
    have k3 := HF.out.2.1.cell1
    go_wp2_with (go_at_call 20; refine (bottom_any _ _).mono ?_; rintro e w2 ⟨rfl, hb2⟩; have hF2 := HF.out.below hb2; have d0 := hF2.2.2.1.cell0; have d1 := hF2.2.2.1.cell1; have f0 := hF2.2.2.1.frozen0; have f1 := hF2.2.2.1.frozen1)
    have hL := hF2.last (.int .i64 0) (.slice none 0 0)
    exact post_cell (rb := w.heap.size + 1 + 1) Tryd.results34 rfl rfl hL.1 ⟨none, 0, rfl, rfl, hL.2⟩

set_option maxRecDepth 100000 in
set_option maxHeartbeats 3200000 in
theorem join_na {w : World} {Na Nb : Int} {Aa Ab : Option Addr} {la lb ca cb m : Nat} {Rb : Option Mat}
    (K : ∀ W, Below w.heap.size w W → Calls Tryd.prog 35 #[zoneV Na Aa la ca, zoneV Nb Ab lb cb] W (RetTwo W m m none Rb)) :
    Calls Tryd.prog 34 #[zoneV Na Aa la ca, zoneV Nb Ab lb cb] w (RetC w m Rb) := by
  have HT := Lib.hid (thr_new w (.int .i64 Na) (.int .i64 Nb) (.int .i64 0) (.slice Aa la ca) (.slice Ab lb cb) (.slice none 0 0))
  have HK := Lib.hid (K _ HT.out.2.2.2)
  clear K
  go_enter Tryd.func34, Tryd.ntmps34
  go_upto_region 2 with (go_at_call 35; refine HK.out.mono ?_; rintro e w1 ⟨A, c1, B, c2, rfl, hz1, hz2, hb1⟩; have hF1 := HT.out.below hb1; have y0 := hF1.1.cell0; have y1 := hF1.1.cell1; have y2 := hF1.2.1.cell0; have y3 := hF1.2.1.cell1; have y4 := hF1.1.frozen0; have y5 := hF1.1.frozen1; have y6 := hF1.2.1.frozen0; have y7 := hF1.2.1.frozen1)
  go_cut [13] (fun t wx => Mid w m m none Rb t wx)
  case first =>
    have hM := mid_mk HT.out hb1 hz1 hz2
    rw [show (!decide (m = m)) = false by simp] at hM
    have HM := Lib.hid hM
    clear hM hz1 hz2 hb1 hF1
    go_wp2_with fail
    go_meet
    exact HM.out
  case rest =>
    clear y0 y1 y2 y3 y4 y5 y6 y7 hF1 hz1 hz2 hb1 HK
    obtain ⟨A, c1, B, c2, ht, hz1, hz2, hF⟩ := hcut
    rw [show (!decide (m = m)) = false by simp] at ht
    subst ht
    have HZ1 := Lib.hid hz1
    have HZ2 := Lib.hid hz2
    have HF := Lib.hid hF
    clear hz1 hz2 hF HT
    have k0 := HF.out.1.cell0
    have k1 := HF.out.1.cell1
    have k2 := HF.out.2.1.cell0
    have k3 := HF.out.2.1.cell1
    have e0 : rlen m (none : Option Mat) = 0 := rfl
    go_wp2_with fail
    refine (none_any _ _ _ _ _).mono ?_
    rintro e w3 ⟨rfl, hb3⟩
    have HF3 := Lib.hid (HF.out.below hb3)
    have HZ3 := Lib.hid (HZ1.out.below hb3)
    have HZ4 := Lib.hid (HZ2.out.below hb3)
    clear hb3 k0 k1 k2 k3
    have k0 := HF3.out.1.cell0
    have k1 := HF3.out.1.cell1
    have k2 := HF3.out.2.1.cell0
    have k3 := HF3.out.2.1.cell1
    have d0 := HF3.out.2.2.1.cell0
    have d1 := HF3.out.2.2.1.cell1
    have f0 := HF3.out.2.2.1.frozen0
    have f1 := HF3.out.2.2.1.frozen1
    go_wp2_with fail
    have hL := HF3.out.last (.int .i64 ((m : Int) - 1)) (.slice B (rlen m Rb) c2)
    exact post_cell (rb := w.heap.size + 1 + 1) Tryd.results34 rfl rfl hL.1 ⟨B, c2, rfl, (HZ4.out.setBox HF3.out.2.2.1 _).setBox (HF3.out.2.2.1.set0 _) _, hL.2⟩

set_option maxRecDepth 100000 in
set_option maxHeartbeats 3200000 in
theorem join_nb {w : World} {Na Nb : Int} {Aa Ab : Option Addr} {la lb ca cb m : Nat} {C : Mat} (h0 : 0 < m)
    (K : ∀ W, Below w.heap.size w W → Calls Tryd.prog 35 #[zoneV Na Aa la ca, zoneV Nb Ab lb cb] W (RetTwo W m m (some C) none)) :
    Calls Tryd.prog 34 #[zoneV Na Aa la ca, zoneV Nb Ab lb cb] w (RetC w m (some C)) := by
  have HT := Lib.hid (thr_new w (.int .i64 Na) (.int .i64 Nb) (.int .i64 0) (.slice Aa la ca) (.slice Ab lb cb) (.slice none 0 0))
  have HK := Lib.hid (K _ HT.out.2.2.2)
  clear K
  go_enter Tryd.func34, Tryd.ntmps34
  go_upto_region 2 with (go_at_call 35; refine HK.out.mono ?_; rintro e w1 ⟨A, c1, B, c2, rfl, hz1, hz2, hb1⟩; have hF1 := HT.out.below hb1; have y0 := hF1.1.cell0; have y1 := hF1.1.cell1; have y2 := hF1.2.1.cell0; have y3 := hF1.2.1.cell1; have y4 := hF1.1.frozen0; have y5 := hF1.1.frozen1; have y6 := hF1.2.1.frozen0; have y7 := hF1.2.1.frozen1)
  go_cut [13] (fun t wx => Mid w m m (some C) none t wx)
  case first =>
    have hM := mid_mk HT.out hb1 hz1 hz2
    rw [show (!decide (m = m)) = false by simp] at hM
    have HM := Lib.hid hM
    clear hM hz1 hz2 hb1 hF1
    go_wp2_with fail
    go_meet
    exact HM.out
  case rest =>
    clear y0 y1 y2 y3 y4 y5 y6 y7 hF1 hz1 hz2 hb1 HK
    obtain ⟨A, c1, B, c2, ht, hz1, hz2, hF⟩ := hcut
    rw [show (!decide (m = m)) = false by simp] at ht
    subst ht
    have HZ1 := Lib.hid hz1
    have HZ2 := Lib.hid hz2
    have HF := Lib.hid hF
    clear hz1 hz2 hF HT
    have k0 := HF.out.1.cell0
    have k1 := HF.out.1.cell1
    have k2 := HF.out.2.1.cell0
    have k3 := HF.out.2.1.cell1
    have e0 : rlen m (none : Option Mat) = 0 := rfl
    have e1 : rlen m (some C) = m * m := rfl
    have e2 := sq_pos h0
    go_wp2_with fail
    refine (none_any _ _ _ _ _).mono ?_
    rintro e w3 ⟨rfl, hb3⟩
    have HF3 := Lib.hid (HF.out.below hb3)
    have HZ3 := Lib.hid (HZ1.out.below hb3)
    have HZ4 := Lib.hid (HZ2.out.below hb3)
    clear hb3 k0 k1 k2 k3
    have k0 := HF3.out.1.cell0
    have k1 := HF3.out.1.cell1
    have k2 := HF3.out.2.1.cell0
    have k3 := HF3.out.2.1.cell1
    go_wp2_with fail
    refine (none_any _ _ _ _ _).mono ?_
    rintro e w4 ⟨rfl, hb4⟩
    have HF4 := Lib.hid (HF3.out.below hb4)
    have HZ5 := Lib.hid (HZ3.out.below hb4)
    have HZ6 := Lib.hid (HZ4.out.below hb4)
    clear hb4 k0 k1 k2 k3
    have k0 := HF4.out.1.cell0
    have k1 := HF4.out.1.cell1
    have k2 := HF4.out.2.1.cell0
    have k3 := HF4.out.2.1.cell1
    have d0 := HF4.out.2.2.1.cell0
    have d1 := HF4.out.2.2.1.cell1
    have f0 := HF4.out.2.2.1.frozen0
    have f1 := HF4.out.2.2.1.frozen1
    go_wp2_with fail
    have hL := HF4.out.last (.int .i64 ((m : Int) - 1)) (.slice A (rlen m (some C)) c1)
    exact post_cell (rb := w.heap.size + 1 + 1) Tryd.results34 rfl rfl hL.1 ⟨A, c1, rfl, (HZ5.out.setBox HF4.out.2.2.1 _).setBox (HF4.out.2.2.1.set0 _) _, hL.2⟩

set_option maxRecDepth 100000 in
set_option maxHeartbeats 3200000 in
theorem join_pts {w : World} {Na Nb : Int} {Aa Ab : Option Addr} {la lb ca cb m : Nat} {C D : Mat} (h0 : 0 < m) (h7 : m ≤ 7)
    (K : ∀ W, Below w.heap.size w W → Calls Tryd.prog 35 #[zoneV Na Aa la ca, zoneV Nb Ab lb cb] W (RetTwo W m m (some C) (some D))) :
    Calls Tryd.prog 34 #[zoneV Na Aa la ca, zoneV Nb Ab lb cb] w (RetC w m (some (maxM C D))) := by
  have HT := Lib.hid (thr_new w (.int .i64 Na) (.int .i64 Nb) (.int .i64 0) (.slice Aa la ca) (.slice Ab lb cb) (.slice none 0 0))
  have HK := Lib.hid (K _ HT.out.2.2.2)
  clear K
  go_enter Tryd.func34, Tryd.ntmps34
  go_upto_region 2 with (go_at_call 35; refine HK.out.mono ?_; rintro e w1 ⟨A, c1, B, c2, rfl, hz1, hz2, hb1⟩; have hF1 := HT.out.below hb1; have y0 := hF1.1.cell0; have y1 := hF1.1.cell1; have y2 := hF1.2.1.cell0; have y3 := hF1.2.1.cell1; have y4 := hF1.1.frozen0; have y5 := hF1.1.frozen1; have y6 := hF1.2.1.frozen0; have y7 := hF1.2.1.frozen1)
  go_cut [13] (fun t wx => Mid w m m (some C) (some D) t wx)
  case first =>
    have hM := mid_mk HT.out hb1 hz1 hz2
    rw [show (!decide (m = m)) = false by simp] at hM
    have HM := Lib.hid hM
    clear hM hz1 hz2 hb1 hF1
    go_wp2_with fail
    go_meet
    exact HM.out
  case rest =>
    clear y0 y1 y2 y3 y4 y5 y6 y7 hF1 hz1 hz2 hb1 HK
    obtain ⟨A, c1, B, c2, ht, hz1, hz2, hF⟩ := hcut
    rw [show (!decide (m = m)) = false by simp] at ht
    subst ht
    have HZ1 := Lib.hid hz1
    have HZ2 := Lib.hid hz2
    have HF := Lib.hid hF
    clear hz1 hz2 hF HT
    have k0 := HF.out.1.cell0
    have k1 := HF.out.1.cell1
    have k2 := HF.out.2.1.cell0
    have k3 := HF.out.2.1.cell1
    have e1 : rlen m (some C) = m * m := rfl
    have e2 := sq_pos h0
    have e4 : rlen m (some D) = m * m := rfl
    go_wp2_with fail
    refine (none_any _ _ _ _ _).mono ?_
    rintro e w3 ⟨rfl, hb3⟩
    have HF3 := Lib.hid (HF.out.below hb3)
    have HZ3 := Lib.hid (HZ1.out.below hb3)
    have HZ4 := Lib.hid (HZ2.out.below hb3)
    clear hb3 k0 k1 k2 k3
    have k0 := HF3.out.1.cell0
    have k1 := HF3.out.1.cell1
    have k2 := HF3.out.2.1.cell0
    have k3 := HF3.out.2.1.cell1
    go_wp2_with fail
    refine (none_any _ _ _ _ _).mono ?_
    rintro e w4 ⟨rfl, hb4⟩
    have HF4 := Lib.hid (HF3.out.below hb4)
    have HZ5 := Lib.hid (HZ3.out.below hb4)
    have HZ6 := Lib.hid (HZ4.out.below hb4)
    clear hb4 k0 k1 k2 k3
    have k0 := HF4.out.1.cell0
    have k1 := HF4.out.1.cell1
    have k2 := HF4.out.2.1.cell0
    have k3 := HF4.out.2.1.cell1
    obtain ⟨g1, rfl, hC, o1⟩ := zres_some HZ5.out
    obtain ⟨g2, rfl, hD, o2⟩ := zres_some HZ6.out
    have O1 := Lib.hid o1
    have O2 := Lib.hid o2
    have HC := Lib.hid hC
    have HD := Lib.hid hD
    clear o1 o2 hC hD HZ1 HZ2 HZ3 HZ4 HZ5 HZ6 HF HF3
    go_wp2_with fail
    refine (fill_any 59 #[.pointer (some ⟨w.heap.size, 0, none⟩), .pointer (some ⟨w.heap.size + 1, 0, none⟩)] m h7 h0 (maxM C D) _ (enters_of Tryd.func59 (by kernel_rfl) rfl) (fun i j W hi hj hbW => ?_)).mono ?_
    · have hF5 := HF4.out.below hbW
      exact join_fn h7 hi hj hF5.1 hF5.2.1 (own_kept_below O1.out hbW) (own_kept_below O2.out hbW)
    rintro e w5 ⟨v5, rfl, ho5, hb5⟩
    obtain ⟨g5, c5, rfl⟩ := own_slice ho5 (Nat.mul_pos h0 h0)
    have hF5 := HF4.out.below hb5
    have hg5 := (ho5.lt g5 rfl).1
    have hs4 := HF4.out.2.2.1.lt
    have ho5' := own_lower ho5 HF4.out.2.2.2.size
    have HF5 := Lib.hid hF5
    have HO5 := Lib.hid ho5'
    clear ho5 ho5' hb5 k0 k1 k2 k3 hF5
    have d0 := HF5.out.2.2.1.cell0
    have d1 := HF5.out.2.2.1.cell1
    have f0 := HF5.out.2.2.1.frozen0
    have f1 := HF5.out.2.2.1.frozen1
    go_wp2_with fail
    refine post_cell (rb := w.heap.size + 1 + 1) Tryd.results34 rfl rfl ((HF5.out.2.2.1.set0 _).set1 _) ⟨_, c5, rfl, ⟨max_closed HC.out HD.out, g5, c5, rfl, ?_⟩, (HF5.out.2.2.2.setCell (p := ⟨w.heap.size + 1 + 1, 0, none⟩) (by simp; omega) _).setCell (p := ⟨w.heap.size + 1 + 1, 1, none⟩) (by simp; omega) _⟩
    exact (HO5.out.kept (duo_grown_setCell _ _ _) (.inr (by simp [Value.ownBlock]; omega))).kept (duo_grown_setCell _ _ _) (.inr (by simp [Value.ownBlock]; omega))

def meM (ma mb : Nat) : Nat := if ma = mb then ma else 1
def mtO (ma mb : Nat) (Ra Rb : Option Mat) : Option Mat := if ma = mb then mtR ma Ra Rb else none
def jnO (ma mb : Nat) : Option Mat → Option Mat → Option Mat
  | some C, some D => if ma = mb then some (maxM C D) else none
  | none, R => if ma = mb then R else none
  | some C, none => if ma = mb then some C else none
theorem meet_any {w : World} {Na Nb : Int} {Aa Ab : Option Addr} {la lb ca cb ma mb : Nat} {Ra Rb : Option Mat} (h0 : 0 < ma) (h7 : ma ≤ 7)
    (K : ∀ W, Below w.heap.size w W → Calls Tryd.prog 35 #[zoneV Na Aa la ca, zoneV Nb Ab lb cb] W (RetTwo W ma mb Ra Rb)) :
    Calls Tryd.prog 38 #[zoneV Na Aa la ca, zoneV Nb Ab lb cb] w (RetC w (meM ma mb) (mtO ma mb Ra Rb)) := by
  unfold meM mtO
  by_cases hm : ma = mb
  · subst hm
    rw [if_pos rfl, if_pos rfl]
    cases Ra with
    | none => exact meet_na h0 h7 K
    | some C =>
      cases Rb with
      | none => exact meet_nb h0 h7 K
      | some D => exact meet_pts h0 h7 K
  · rw [if_neg hm, if_neg hm]
    exact meet_off hm K
theorem join_any {w : World} {Na Nb : Int} {Aa Ab : Option Addr} {la lb ca cb ma mb : Nat} {Ra Rb : Option Mat} (h0 : 0 < ma) (h7 : ma ≤ 7)
    (K : ∀ W, Below w.heap.size w W → Calls Tryd.prog 35 #[zoneV Na Aa la ca, zoneV Nb Ab lb cb] W (RetTwo W ma mb Ra Rb)) :
    Calls Tryd.prog 34 #[zoneV Na Aa la ca, zoneV Nb Ab lb cb] w (RetC w (meM ma mb) (jnO ma mb Ra Rb)) := by
  unfold meM
  by_cases hm : ma = mb
  · subst hm
    rw [if_pos rfl]
    cases Ra with
    | none => have e : jnO ma ma none Rb = Rb := by unfold jnO; cases Rb <;> simp
              rw [e]; exact join_na K
    | some C =>
      cases Rb with
      | none => have e : jnO ma ma (some C) none = some C := by unfold jnO; simp
                rw [e]; exact join_nb h0 K
      | some D => have e : jnO ma ma (some C) (some D) = some (maxM C D) := by unfold jnO; simp
                  rw [e]; exact join_pts h0 h7 K
  · rw [if_neg hm]
    have e : jnO ma mb Ra Rb = none := by unfold jnO; cases Ra <;> cases Rb <;> simp [hm]
    rw [e]
    exact join_off hm K
end Go.Proofs.YtlkbapcienjdcaaDoor

/- The contract of within: any two closed ones. -/
namespace Go.Proofs.YtlkbapcienjdcaaDoor
open Go.RowKit Go.Shelf
attribute [local go_sem] Oper.semAt_some
attribute [local go_sem ↓] Go.wp_at_zero Go.wp_at_succ

def leB (m : Nat) (C D : Mat) : Bool := (List.range m).all fun i => (List.range m).all fun j => decide (C i j ≤ D i j)
theorem leB_iff (m : Nat) (C D : Mat) : leB m C D = true ↔ ∀ i j, i < m → j < m → C i j ≤ D i j := by
  unfold leB
  simp only [List.all_eq_true, List.mem_range, decide_eq_true_eq]
  exact ⟨fun h i j hi hj => h i hi j hj, fun h i hi j hj => h i j hi hj⟩
theorem leB_no {m : Nat} {C D : Mat} {i j : Nat} (hi : i < m) (hj : j < m) (h : D i j < C i j) : leB m C D = false := by
  cases e : leB m C D
  · rfl
  · have := (leB_iff m C D).1 e i j hi hj
    omega
/-- How much room there is; by it the lemmas of settle's rounds serve here. -/
def gap (C D : Mat) : Mat := fun i j => D i j - C i j - far i j
theorem leB_gap {m : Nat} {C D : Mat} (h : ∀ i j, i < m → j < m → -far i j ≤ gap C D i j) : leB m C D = true := (leB_iff _ _ _).2 fun i j hi hj => by
  have := h i j hi hj
  unfold gap at this
  omega

/-- The blocks of within. -/
def Withing (w : World) (a a' b b' r : Value) (W : World) : Prop := Duo W w.heap.size 39 a a' ∧ Duo W (w.heap.size + 1) 39 b b' ∧ Boxed W (w.heap.size + 1 + 1) 4 r ∧ Below w.heap.size w W
theorem Withing.below {w W W1 : World} {a a' b b' r : Value} (h : Withing w a a' b b' r W) (hb : Below W.heap.size W W1) : Withing w a a' b b' r W1 :=
  ⟨h.1.below hb, h.2.1.below hb, boxed_below h.2.2.1 hb, h.2.2.2.trans (hb.mono h.2.2.2.size)⟩
theorem Withing.drew {w W : World} {a a' b b' r : Value} (h : Withing w a a' b b' r W) : Withing w a a' b b' r W.drew := ⟨h.1, h.2.1, h.2.2.1, h.2.2.2.drew⟩
theorem withing_own {α : Type} {w : World} {a a' b b' r : Value} (B : Nat) (hB : w.heap.size ≤ B) : OwnFrom B (fun (_ : α) W => Withing w a a' b b' r W) := by
  intro s X Y row h hg hr
  have hr' : ∀ r, row = some r → ∃ o : Obj, X.heap[r]? = some o ∧ o.isCells = false := fun r e => (hr r e).2
  exact ⟨cells_own h.1 hg hr', cells_own h.2.1 hg hr', cells_own h.2.2.1 hg hr', h.2.2.2.grown hg h.2.2.2.size (fun r e => Nat.le_trans hB (hr r e).1)⟩
/-- It was found that a bound is above. -/
def Above (m : Nat) (C D : Mat) (w : World) (a a' b b' : Value) (c : Code) (W : World) : Prop := c = .ret ∧ leB m C D = false ∧ Withing w a a' b b' (.bool false) W
theorem above_own {α : Type} (m : Nat) (C D : Mat) (w : World) (a a' b b' : Value) (B : Nat) (hB : w.heap.size ≤ B) (c : Code) : OwnFrom B (fun (_ : α) W => Above m C D w a a' b b' c W) := by
  intro s X Y row h hg hr
  exact ⟨h.1, h.2.1, withing_own (α := α) B hB s X Y row h.2.2 hg hr⟩
def RetB (w : World) (b : Bool) (e : Ending) (w' : World) : Prop := e = .returned (.bool b) ∧ Below w.heap.size w w'

theorem withing_new (w : World) (a a' b b' r : Value) : Withing w a a' b b' r (((w.alloc (.cells #[a, a'] 39)).alloc (.cells #[b, b'] 39)).alloc (.cells #[r] 4)) := by
  have h1 := Duo.new (w.alloc (.cells #[a, a'] 39)) 39 b b'
  have h2 := Boxed.new ((w.alloc (.cells #[a, a'] 39)).alloc (.cells #[b, b'] 39)) 4 r
  simp only [World.size_alloc] at h1 h2
  exact ⟨((Duo.new w _ _ _).alloc _).alloc _, h1.alloc _, h2, (((Below.refl _ w).alloc (Nat.le_refl _) _).alloc (by simp) _).alloc (by simp; omega) _⟩

theorem within_leaves {w W : World} {r : Bool} {Ds : List Nat} {tmps : Array Value} (hcW : w.heap.size + 1 + 1 + 1 ≤ W.heap.size) (hM : Marks (w.heap.size + 1 + 1 + 1) Ds W) (hR : Boxed W (w.heap.size + 1 + 1) 4 (.bool r)) (hG : Below w.heap.size w W)
    (ht : tmps.getD 4 undef = .pointer (some ⟨w.heap.size + 1 + 1, 0, none⟩)) : LeavesInM Fence.wide 3 Tryd.prog Tryd.f37 tmps (RetB w r) (Ds.map mark) .returning W := by
  refine leaves_marks (B := w.heap.size + 1 + 1 + 1) Ds W hcW hM (fun W' hb => ?_)
  have hR' : Boxed W' (w.heap.size + 1 + 1) 4 (.bool r) := (hb.block _ (by omega)).trans hR
  have r0 := hR'.cell
  simp at ht
  refine ⟨.bool r, ?_, rfl, hG.trans (hb.mono (by omega))⟩
  simp [results, Tryd.results37, go_sem, ht, r0]

set_option maxRecDepth 100000 in
set_option maxHeartbeats 3200000 in
theorem within_any (m : Nat) (hm7 : m ≤ 7) (h0m : 0 < m) (C D : Mat) (g1 g2 c1 c2 base : Nat) (w : World)
    (o1 : w.ownsRow base 3 1 (.slice (some ⟨g1, 0, none⟩) (m * m) c1) (m * m) ((flatL m C).map (Value.int .i64))) (o2 : w.ownsRow base 3 1 (.slice (some ⟨g2, 0, none⟩) (m * m) c2) (m * m) ((flatL m D).map (Value.int .i64))) :
    Calls Tryd.prog 37 #[zoneV ((m : Int) - 1) (some ⟨g1, 0, none⟩) (m * m) c1, zoneV ((m : Int) - 1) (some ⟨g2, 0, none⟩) (m * m) c2] w (RetB w (leB m C D)) := by
  have O1 := Lib.hid o1
  have O2 := Lib.hid o2
  clear o1 o2
  refine (callsIn_wide (n := 3)).1 ?_
  refine callsIn_of_wp_marks Tryd.func37 rfl trivial ?_ rfl
  simp only [Tryd.ntmps37, List.size_toArray, List.length_cons, List.length_nil, Nat.reduceAdd, Nat.reduceSub, Array.replicate_succ, Array.replicate_zero, List.push_toArray, List.append_toArray, List.nil_append, List.cons_append]
  refine wpIn_wide.2 ?_
  go_wp2_with (go_at_call 51; ((with_reducible refine (cells_any _ _).mono ?_); rintro e w2 ⟨rfl, rfl⟩))
  have hI0 : Withing w (.int .i64 ((m : Int) - 1)) (.slice (some ⟨g1, 0, none⟩) (m * m) c1) (.int .i64 ((m : Int) - 1)) (.slice (some ⟨g2, 0, none⟩) (m * m) c2) (.bool false) ((((w.alloc (.cells #[.int .i64 ((m : Int) - 1), .slice (some ⟨g1, 0, none⟩) (m * m) c1] 39)).alloc (.cells #[.int .i64 ((m : Int) - 1), .slice (some ⟨g2, 0, none⟩) (m * m) c2] 39)).alloc (.cells #[.bool false] 4)).alloc (.cells #[.int .i64 ((m : Int) - 1)] 3)) := by
    have h := withing_new w (.int .i64 ((m : Int) - 1)) (.slice (some ⟨g1, 0, none⟩) (m * m) c1) (.int .i64 ((m : Int) - 1)) (.slice (some ⟨g2, 0, none⟩) (m * m) c2) (.bool false)
    exact h.below (zboxed _ _)
  have hcb := Boxed.new (((w.alloc (.cells #[.int .i64 ((m : Int) - 1), .slice (some ⟨g1, 0, none⟩) (m * m) c1] 39)).alloc (.cells #[.int .i64 ((m : Int) - 1), .slice (some ⟨g2, 0, none⟩) (m * m) c2] 39)).alloc (.cells #[.bool false] 4)) 3 (.int .i64 ((m : Int) - 1))
  simp only [World.size_alloc] at hcb
  refine (wpIn_wide (n := 3)).1 ?_
  refine wpIn_rangeFunc_ownG rfl (by omega) (gf := 69) (lb := #[.pointer (some ⟨w.heap.size + 1 + 1 + 1, 0, none⟩)]) rfl trivial (enters_of Tryd.func69 (by kernel_rfl) rfl)
    (cells_stops Fence.wide 2 trivial rfl (by omega) (w.heap.size + 1 + 1 + 1) m hm7 h0m _ (by simp) hcb.cell) cellKept_t (cellKept_b (by simp)) (Below.refl _ _) (fun _ => rfl)
    (fun pre W => Withing w (.int .i64 ((m : Int) - 1)) (.slice (some ⟨g1, 0, none⟩) (m * m) c1) (.int .i64 ((m : Int) - 1)) (.slice (some ⟨g2, 0, none⟩) (m * m) c2) (.bool false) W ∧ FitTo (gap C D) pre ∧ w.heap.size + 1 + 1 + 1 < W.heap.size)
    (fun c _ W => Above m C D w (.int .i64 ((m : Int) - 1)) (.slice (some ⟨g1, 0, none⟩) (m * m) c1) (.int .i64 ((m : Int) - 1)) (.slice (some ⟨g2, 0, none⟩) (m * m) c2) c W)
    (OwnFrom.and (withing_own _ (by simp; omega)) (fun _ _ _ _ h hg _ => ⟨h.1, Nat.lt_of_lt_of_le h.2 hg.size⟩)) (above_own m C D w _ _ _ _ _ (by simp; omega)) ⟨hI0, fitTo_nil _, by simp⟩
    (fun x => { tmps := #[zoneV ((m : Int) - 1) (some ⟨g1, 0, none⟩) (m * m) c1, zoneV ((m : Int) - 1) (some ⟨g2, 0, none⟩) (m * m) c2, .pointer (some ⟨w.heap.size, 0, none⟩), .pointer (some ⟨w.heap.size + 1, 0, none⟩), .pointer (some ⟨w.heap.size + 1 + 1, 0, none⟩), .int .i64 (x.1.1 : Int), .int .i64 (x.1.2 : Int), .pointer (some ⟨w.heap.size, 0, none⟩), .int .i64 ((m : Int) - 1), .func (.func 69) #[] #[.pointer (some ⟨w.heap.size + 1 + 1 + 1, 0, none⟩)], .int .i64 (x.1.1 : Int), .int .i64 (x.1.2 : Int), undef, undef, undef, undef, undef, undef, undef, undef, undef], defers := [] }) ?assign ?body ?done ?stop
  case assign =>
    intro l x W K hK
    gi_wp2
    exact hK
  case body =>
    rintro l pre ⟨⟨i, j⟩, hi, hj⟩ W ⟨hS, hFt, hcW⟩ hlen
    dsimp only at hi hj ⊢
    obtain ⟨B0, hB0⟩ : ∃ B0, B0 = ((((w.alloc (.cells #[.int .i64 ((m : Int) - 1), .slice (some ⟨g1, 0, none⟩) (m * m) c1] 39)).alloc (.cells #[.int .i64 ((m : Int) - 1), .slice (some ⟨g2, 0, none⟩) (m * m) c2] 39)).alloc (.cells #[.bool false] 4)).alloc (.cells #[.int .i64 ((m : Int) - 1)] 3)).heap.size := ⟨_, rfl⟩
    have HA := Lib.hid (fun (W' : World) (h : Withing w (.int .i64 ((m : Int) - 1)) (.slice (some ⟨g1, 0, none⟩) (m * m) c1) (.int .i64 ((m : Int) - 1)) (.slice (some ⟨g2, 0, none⟩) (m * m) c2) (.bool false) W') => at_own hm7 hi hj (own_kept_below O1.out h.2.2.2))
    have HB := Lib.hid (fun (W' : World) (h : Withing w (.int .i64 ((m : Int) - 1)) (.slice (some ⟨g1, 0, none⟩) (m * m) c1) (.int .i64 ((m : Int) - 1)) (.slice (some ⟨g2, 0, none⟩) (m * m) c2) (.bool false) W') => at_own hm7 hi hj (own_kept_below O2.out h.2.2.2))
    gi_wp2
    refine wpIn_held (S := (fun W' => W'.cell? ⟨w.heap.size, 0, none⟩ = some (.int .i64 ((m : Int) - 1)) ∧ W'.cell? ⟨w.heap.size, 1, none⟩ = some (.slice (some ⟨g1, 0, none⟩) (m * m) c1) ∧ W'.cell? ⟨w.heap.size + 1, 0, none⟩ = some (.int .i64 ((m : Int) - 1)) ∧ W'.cell? ⟨w.heap.size + 1, 1, none⟩ = some (.slice (some ⟨g2, 0, none⟩) (m * m) c2))) (by kernel_rfl) (by kernel_rfl) (by rintro ⟨_, _, h⟩; exact h) ⟨hS.1.cell0, hS.1.cell1, hS.2.1.cell0, hS.2.1.cell1⟩ (fun hH0 => ?_)
    simp only [List.size_toArray, List.length_cons, List.length_nil, Nat.reduceAdd, Array.replicate_succ, Array.replicate_zero, List.push_toArray, List.nil_append, List.cons_append]
    refine wpAnyH_take (i := 0) (oi := ⟨some 12, _, _, _, _, _⟩) (v := ?_) rfl (by kernel_rfl) (by kernel_rfl) (by kernel_rfl) (fun _ _ _ h => h) (Or.inl ⟨by rfl, ?_⟩) hH0 ?_
    rotate_left
    · intro w hSw
      try dsimp only at hSw
      go_simp
      try with_reducible rfl
    try simp only [Act.put, List.setIfInBounds_toArray, List.set_cons_zero, List.set_cons_succ]
    refine wpAnyH_take (i := 1) (oi := ⟨some 13, _, _, _, _, _⟩) (v := ?_) rfl (by kernel_rfl) (by kernel_rfl) (by kernel_rfl) (fun _ _ _ h => h) (Or.inl ⟨by rfl, ?_⟩) hH0 ?_
    rotate_left
    · intro w hSw
      try dsimp only at hSw
      go_simp
      try with_reducible rfl
    try simp only [Act.put, List.setIfInBounds_toArray, List.set_cons_zero, List.set_cons_succ]
    refine wpAnyH_take (i := 2) (oi := ⟨some 14, _, _, _, _, _⟩) (v := ?_) rfl (by kernel_rfl) (by kernel_rfl) (by kernel_rfl) (fun _ _ _ h => h) (Or.inl ⟨by rfl, ?_⟩) hH0 ?_
    rotate_left
    · intro w hSw
      try dsimp only at hSw
      go_simp
      try with_reducible rfl
    try simp only [Act.put, List.setIfInBounds_toArray, List.set_cons_zero, List.set_cons_succ]
    refine wpAnyH_take (i := 4) (oi := ⟨some 16, _, _, _, _, _⟩) (v := ?_) rfl (by kernel_rfl) (by kernel_rfl) (by kernel_rfl) (fun _ _ _ h => h) (Or.inl ⟨by rfl, ?_⟩) hH0 ?_
    rotate_left
    · intro w hSw
      try dsimp only at hSw
      go_simp
      try with_reducible rfl
    try simp only [Act.put, List.setIfInBounds_toArray, List.set_cons_zero, List.set_cons_succ]
    refine wpAnyH_take (i := 5) (oi := ⟨some 17, _, _, _, _, _⟩) (v := ?_) rfl (by kernel_rfl) (by kernel_rfl) (by kernel_rfl) (fun _ _ _ h => h) (Or.inl ⟨by rfl, ?_⟩) hH0 ?_
    rotate_left
    · intro w hSw
      try dsimp only at hSw
      go_simp
      try with_reducible rfl
    try simp only [Act.put, List.setIfInBounds_toArray, List.set_cons_zero, List.set_cons_succ]
    refine wpAnyH_take (i := 6) (oi := ⟨some 18, _, _, _, _, _⟩) (v := ?_) rfl (by kernel_rfl) (by kernel_rfl) (by kernel_rfl) (fun _ _ _ h => h) (Or.inl ⟨by rfl, ?_⟩) hH0 ?_
    rotate_left
    · intro w hSw
      try dsimp only at hSw
      go_simp
      try with_reducible rfl
    try simp only [Act.put, List.setIfInBounds_toArray, List.set_cons_zero, List.set_cons_succ]
    refine wpAnyH_ready (rs := [3]) (by kernel_rfl) (by simp) ?_
    refine (AllReadyH.cons (o := ⟨some 15, _, _, _, _, _⟩) rfl (fun K hK => ?_) AllReadyH.nil)
    go_simp
    refine (HA.out _ hS.drew).mono ?_
    rintro e W1 ⟨rfl, hb1⟩
    have hb1' : Below W.heap.size W W1 := ⟨hb1.os, hb1.tape, hb1.output, hb1.size, hb1.block⟩
    have hS1 := hS.below hb1'
    go_wp2_with fail
    refine hK.out _ _ (⟨hS1.1.cell0, hS1.1.cell1, hS1.2.1.cell0, hS1.2.1.cell1⟩) (fun hH1 => ?_)
    clear hK K
    try simp only [List.setIfInBounds_toArray, List.set_cons_zero, List.set_cons_succ]
    refine wpAnyH_ready (rs := [7]) (by kernel_rfl) (by simp) ?_
    refine (AllReadyH.cons (o := ⟨some 19, _, _, _, _, _⟩) rfl (fun K hK => ?_) AllReadyH.nil)
    go_simp
    refine (HB.out _ hS1).mono ?_
    rintro e W2 ⟨rfl, hb2⟩
    have hS2 := hS1.below hb2
    go_wp2_with fail
    refine hK.out _ _ (⟨hS2.1.cell0, hS2.1.cell1, hS2.2.1.cell0, hS2.2.1.cell1⟩) (fun hH2 => ?_)
    clear hK K
    try simp only [List.setIfInBounds_toArray, List.set_cons_zero, List.set_cons_succ]
    refine wpAnyH_take (i := 8) (oi := ⟨some 20, _, _, _, _, _⟩) (v := ?_) rfl (by kernel_rfl) (by kernel_rfl) (by kernel_rfl) (fun _ _ _ h => h) (Or.inl ⟨by rfl, ?_⟩) hH2 ?_
    rotate_left
    · intro w hSw
      try dsimp only at hSw
      go_simp
      try with_reducible rfl
    try simp only [Act.put, List.setIfInBounds_toArray, List.set_cons_zero, List.set_cons_succ]
    refine wpAnyH_done (by kernel_rfl) ?_ _
    have hb12 : Below W.heap.size W W2 := zthen hb1' hb2
    have r0 := hS2.2.2.1.cell
    have r1 := hS2.2.2.1.frozen
    clear hH0 hH1 hH2 hb1 hb1' hb2 HA HB hS1
    by_cases hlt : D i j < C i j
    · have hk := (keeps_below hb12 B0).trans (keeps_setCell W2 ⟨w.heap.size + 1 + 1, 0, none⟩ (.bool false) _)
      gi_wp2
      subst hB0
      exact (⟨hk, rfl, leB_no hi hj hlt, hS2.1.other (by simp <;> omega) _, hS2.2.1.other (by simp) _, hS2.2.2.1.set _, hS2.2.2.2.setCell (p := ⟨w.heap.size + 1 + 1, 0, none⟩) (by simp; omega) _⟩ : KeepsFrom _ _ _ ∧ Above m C D w _ _ _ _ .ret _)
    · have hlt' : decide (D i j < C i j) = false := decide_eq_false hlt
      gi_wp2
      subst hB0
      exact (⟨keeps_below hb12 _, kept_below hb12 hcW, hS2, fitTo_snoc (x := ⟨(i, j), hi, hj⟩) hFt (show -far i j ≤ gap C D i j by unfold gap; omega), Nat.lt_of_lt_of_le hcW hb12.size⟩ : KeepsFrom _ _ _ ∧ CellKept _ _ _ ∧ Withing _ _ _ _ _ _ _ ∧ FitTo _ _ ∧ _)
  case done =>
    rintro E ys W hD rfl ⟨hS, hFt, hcW⟩ hK
    have hle := leB_gap (fitTo_all h0m hFt)
    have r0 := hS.2.2.1.cell
    have r1 := hS.2.2.1.frozen
    have hp : Boxed (W.setCell ⟨w.heap.size + 1 + 1, 0, none⟩ (.bool true)) (w.heap.size + 1 + 1) 4 (.bool (leB m C D)) := by rw [hle]; exact hS.2.2.1.set (.bool true)
    have hM : Marks (w.heap.size + 1 + 1 + 1) [E] (W.setCell ⟨w.heap.size + 1 + 1, 0, none⟩ (.bool true)) := ((marks_nil _ _).cons (by simp at hD; omega) hK (fun D' h => by cases h)).keep (keeps_setCell _ _ _ _)
    have hb := hS.2.2.2.setCell (p := ⟨w.heap.size + 1 + 1, 0, none⟩) (by simp; omega) (.bool true)
    go_wp2_with fail
    exact within_leaves (Ds := [E]) (by simp; omega) hM hp hb rfl
  case stop =>
    rintro E c pre W hD _ ⟨rfl, hna, hS⟩ hK
    rw [hna]
    have hlt := (Array.getElem?_eq_some_iff.1 hK).1
    gi_wp2
    exact within_leaves (Ds := [E]) (by simp at hD; omega) ((marks_nil _ _).cons (by simp at hD; omega) hK (fun D' h => by cases h)) hS.2.2.1 hS.2.2.2 rfl
end Go.Proofs.YtlkbapcienjdcaaDoor

/- The contract of Leq: any two zones. -/
namespace Go.Proofs.YtlkbapcienjdcaaDoor
open Go.RowKit
attribute [local go_sem ↓] Go.wp_at_zero Go.wp_at_succ

def leqO (ma mb : Nat) : Option Mat → Option Mat → Bool
  | none, _ => decide (ma = mb)
  | some _, none => false
  | some C, some D => decide (ma = mb) && leB ma C D
/-- Two boxes of zones. -/
def Dob (w W : World) (a b a' b' : Value) : Prop := Duo W w.heap.size 39 a a' ∧ Duo W (w.heap.size + 1) 39 b b' ∧ Below w.heap.size w W
theorem Dob.below {w W W1 : World} {a b a' b' : Value} (h : Dob w W a b a' b') (hb : Below W.heap.size W W1) : Dob w W1 a b a' b' := ⟨h.1.below hb, h.2.1.below hb, h.2.2.trans (hb.mono h.2.2.size)⟩
theorem dob_new (w : World) (a b a' b' : Value) : Dob w ((w.alloc (.cells #[a, a'] 39)).alloc (.cells #[b, b'] 39)) a b a' b' := by
  have h1 := Duo.new (w.alloc (.cells #[a, a'] 39)) 39 b b'
  simp only [World.size_alloc] at h1
  exact ⟨(Duo.new w _ _ _).alloc _, h1, ((Below.refl _ w).alloc (Nat.le_refl _) _).alloc (by simp) _⟩
theorem Dob.put {w W : World} {a b a' b' : Value} (h : Dob w W a b a' b') (x y x' y' : Value) :
    Dob w ((((W.setCell ⟨w.heap.size, 0, none⟩ x).setCell ⟨w.heap.size, 1, none⟩ x').setCell ⟨w.heap.size + 1, 0, none⟩ y).setCell ⟨w.heap.size + 1, 1, none⟩ y') x y x' y' := by
  obtain ⟨h1, h2, h5⟩ := h
  refine ⟨(((h1.set0 x).set1 x').other (by simp) _).other (by simp) _, ((((h2.other (by simp) _).other (by simp) _).set0 y).set1 y'), ?_⟩
  exact (((h5.setCell (p := ⟨w.heap.size, 0, none⟩) (by simp) _).setCell (p := ⟨w.heap.size, 1, none⟩) (by simp) _).setCell (p := ⟨w.heap.size + 1, 0, none⟩) (by simp) _).setCell (p := ⟨w.heap.size + 1, 1, none⟩) (by simp) _
def Mid2 (w : World) (ma mb : Nat) (Ra Rb : Option Mat) (t : Value) (wx : World) : Prop :=
  ∃ A ca B cb, t = .bool (!decide (ma = mb)) ∧ ZRes wx w.heap.size ma Ra (zoneV ((ma : Int) - 1) A (rlen ma Ra) ca) ∧ ZRes wx w.heap.size mb Rb (zoneV ((mb : Int) - 1) B (rlen mb Rb) cb) ∧
    Dob w wx (.int .i64 ((ma : Int) - 1)) (.int .i64 ((mb : Int) - 1)) (.slice A (rlen ma Ra) ca) (.slice B (rlen mb Rb) cb)
theorem mid2_mk {w W w1 : World} {ma mb : Nat} {Ra Rb : Option Mat} {a b a' b' : Value} {A B : Option Addr} {c1 c2 : Nat} (hF : Dob w W a b a' b') (hb1 : Below W.heap.size W w1)
    (hz1 : ZRes w1 W.heap.size ma Ra (zoneV ((ma : Int) - 1) A (rlen ma Ra) c1)) (hz2 : ZRes w1 W.heap.size mb Rb (zoneV ((mb : Int) - 1) B (rlen mb Rb) c2)) :
    Mid2 w ma mb Ra Rb (.bool (!decide (ma = mb))) ((((w1.setCell ⟨w.heap.size, 0, none⟩ (.int .i64 ((ma : Int) - 1))).setCell ⟨w.heap.size, 1, none⟩ (.slice A (rlen ma Ra) c1)).setCell ⟨w.heap.size + 1, 0, none⟩ (.int .i64 ((mb : Int) - 1))).setCell ⟨w.heap.size + 1, 1, none⟩ (.slice B (rlen mb Rb) c2)) := by
  have hsz : w.heap.size + 1 < W.heap.size := hF.2.1.lt
  have q1 := (((hz1.setCell (a := ⟨w.heap.size, 0, none⟩) (by simp; omega) (.int .i64 ((ma : Int) - 1))).setCell (a := ⟨w.heap.size, 1, none⟩) (by simp; omega) (.slice A (rlen ma Ra) c1)).setCell (a := ⟨w.heap.size + 1, 0, none⟩) (by simp; omega) (.int .i64 ((mb : Int) - 1))).setCell (a := ⟨w.heap.size + 1, 1, none⟩) (by simp; omega) (.slice B (rlen mb Rb) c2)
  have q2 := (((hz2.setCell (a := ⟨w.heap.size, 0, none⟩) (by simp; omega) (.int .i64 ((ma : Int) - 1))).setCell (a := ⟨w.heap.size, 1, none⟩) (by simp; omega) (.slice A (rlen ma Ra) c1)).setCell (a := ⟨w.heap.size + 1, 0, none⟩) (by simp; omega) (.int .i64 ((mb : Int) - 1))).setCell (a := ⟨w.heap.size + 1, 1, none⟩) (by simp; omega) (.slice B (rlen mb Rb) c2)
  exact ⟨A, c1, B, c2, rfl, q1.lower (by omega), q2.lower (by omega), (hF.below hb1).put _ _ _ _⟩

set_option maxRecDepth 100000 in
set_option maxHeartbeats 3200000 in
theorem leq_off {w : World} {Na Nb : Int} {Aa Ab : Option Addr} {la lb ca cb ma mb : Nat} {Ra Rb : Option Mat} (hm : ma ≠ mb)
    (K : ∀ W, Below w.heap.size w W → Calls Tryd.prog 35 #[zoneV Na Aa la ca, zoneV Nb Ab lb cb] W (RetTwo W ma mb Ra Rb)) :
    Calls Tryd.prog 17 #[zoneV Na Aa la ca, zoneV Nb Ab lb cb] w (RetB w false) := by
  have HT := Lib.hid (dob_new w (.int .i64 Na) (.int .i64 Nb) (.slice Aa la ca) (.slice Ab lb cb))
  have HK := Lib.hid (K _ HT.out.2.2)
  clear K
  have HM0 := Lib.hid hm
  clear hm
  go_enter Tryd.func17, Tryd.ntmps17
  go_upto_region 2 with (go_at_call 35; refine HK.out.mono ?_; rintro e w1 ⟨A, c1, B, c2, rfl, hz1, hz2, hb1⟩; have hF1 := HT.out.below hb1; have y0 := hF1.1.cell0; have y1 := hF1.1.cell1; have y2 := hF1.2.1.cell0; have y3 := hF1.2.1.cell1; have y4 := hF1.1.frozen0; have y5 := hF1.1.frozen1; have y6 := hF1.2.1.frozen0; have y7 := hF1.2.1.frozen1)
  go_cut [13] (fun t wx => Mid2 w ma mb Ra Rb t wx)
  case first =>
    have hM := mid2_mk HT.out hb1 hz1 hz2
    have HM := Lib.hid hM
    clear hM hz1 hz2 hb1 hF1
    go_wp2_with fail
    go_meet
    exact HM.out
  case rest =>
    clear y0 y1 y2 y3 y4 y5 y6 y7 hF1 hz1 hz2 hb1 HK
    obtain ⟨A, c1, B, c2, ht, hz1, hz2, hF⟩ := hcut
    rw [show (!decide (ma = mb)) = true by rw [decide_eq_false HM0.out]; rfl] at ht
    subst ht
    have HZ1 := Lib.hid hz1
    have HZ2 := Lib.hid hz2
    have HF := Lib.hid hF
    clear hz1 hz2 hF HT
    have k0 := HF.out.1.cell0
    have k1 := HF.out.1.cell1
    have k2 := HF.out.2.1.cell0
    have k3 := HF.out.2.1.cell1
    go_wp2_with fail
    go_ret
    exact ⟨rfl, HF.out.2.2⟩

set_option maxRecDepth 100000 in
set_option maxHeartbeats 3200000 in
theorem leq_na {w : World} {Na Nb : Int} {Aa Ab : Option Addr} {la lb ca cb m : Nat} {Rb : Option Mat}
    (K : ∀ W, Below w.heap.size w W → Calls Tryd.prog 35 #[zoneV Na Aa la ca, zoneV Nb Ab lb cb] W (RetTwo W m m none Rb)) :
    Calls Tryd.prog 17 #[zoneV Na Aa la ca, zoneV Nb Ab lb cb] w (RetB w true) := by
  have HT := Lib.hid (dob_new w (.int .i64 Na) (.int .i64 Nb) (.slice Aa la ca) (.slice Ab lb cb))
  have HK := Lib.hid (K _ HT.out.2.2)
  clear K
  go_enter Tryd.func17, Tryd.ntmps17
  go_upto_region 2 with (go_at_call 35; refine HK.out.mono ?_; rintro e w1 ⟨A, c1, B, c2, rfl, hz1, hz2, hb1⟩; have hF1 := HT.out.below hb1; have y0 := hF1.1.cell0; have y1 := hF1.1.cell1; have y2 := hF1.2.1.cell0; have y3 := hF1.2.1.cell1; have y4 := hF1.1.frozen0; have y5 := hF1.1.frozen1; have y6 := hF1.2.1.frozen0; have y7 := hF1.2.1.frozen1)
  go_cut [13] (fun t wx => Mid2 w m m none Rb t wx)
  case first =>
    have hM := mid2_mk HT.out hb1 hz1 hz2
    rw [show (!decide (m = m)) = false by simp] at hM
    have HM := Lib.hid hM
    clear hM hz1 hz2 hb1 hF1
    go_wp2_with fail
    go_meet
    exact HM.out
  case rest =>
    clear y0 y1 y2 y3 y4 y5 y6 y7 hF1 hz1 hz2 hb1 HK
    obtain ⟨A, c1, B, c2, ht, hz1, hz2, hF⟩ := hcut
    rw [show (!decide (m = m)) = false by simp] at ht
    subst ht
    have HZ1 := Lib.hid hz1
    have HZ2 := Lib.hid hz2
    have HF := Lib.hid hF
    clear hz1 hz2 hF HT
    have k0 := HF.out.1.cell0
    have k1 := HF.out.1.cell1
    have k2 := HF.out.2.1.cell0
    have k3 := HF.out.2.1.cell1
    have e0 : rlen m (none : Option Mat) = 0 := rfl
    go_wp2_with fail
    refine (none_any _ _ _ _ _).mono ?_
    rintro e w3 ⟨rfl, hb3⟩
    have HF3 := Lib.hid (HF.out.below hb3)
    have HZ3 := Lib.hid (HZ1.out.below hb3)
    have HZ4 := Lib.hid (HZ2.out.below hb3)
    clear hb3 k0 k1 k2 k3
    have k0 := HF3.out.1.cell0
    have k1 := HF3.out.1.cell1
    have k2 := HF3.out.2.1.cell0
    have k3 := HF3.out.2.1.cell1
    go_wp2_with fail
    go_ret
    exact ⟨rfl, HF3.out.2.2⟩

set_option maxRecDepth 100000 in
set_option maxHeartbeats 3200000 in
theorem leq_nb {w : World} {Na Nb : Int} {Aa Ab : Option Addr} {la lb ca cb m : Nat} {C : Mat} (h0 : 0 < m)
    (K : ∀ W, Below w.heap.size w W → Calls Tryd.prog 35 #[zoneV Na Aa la ca, zoneV Nb Ab lb cb] W (RetTwo W m m (some C) none)) :
    Calls Tryd.prog 17 #[zoneV Na Aa la ca, zoneV Nb Ab lb cb] w (RetB w false) := by
  have HT := Lib.hid (dob_new w (.int .i64 Na) (.int .i64 Nb) (.slice Aa la ca) (.slice Ab lb cb))
  have HK := Lib.hid (K _ HT.out.2.2)
  clear K
  go_enter Tryd.func17, Tryd.ntmps17
  go_upto_region 2 with (go_at_call 35; refine HK.out.mono ?_; rintro e w1 ⟨A, c1, B, c2, rfl, hz1, hz2, hb1⟩; have hF1 := HT.out.below hb1; have y0 := hF1.1.cell0; have y1 := hF1.1.cell1; have y2 := hF1.2.1.cell0; have y3 := hF1.2.1.cell1; have y4 := hF1.1.frozen0; have y5 := hF1.1.frozen1; have y6 := hF1.2.1.frozen0; have y7 := hF1.2.1.frozen1)
  go_cut [13] (fun t wx => Mid2 w m m (some C) none t wx)
  case first =>
    have hM := mid2_mk HT.out hb1 hz1 hz2
    rw [show (!decide (m = m)) = false by simp] at hM
    have HM := Lib.hid hM
    clear hM hz1 hz2 hb1 hF1
    go_wp2_with fail
    go_meet
    exact HM.out
  case rest =>
    clear y0 y1 y2 y3 y4 y5 y6 y7 hF1 hz1 hz2 hb1 HK
    obtain ⟨A, c1, B, c2, ht, hz1, hz2, hF⟩ := hcut
    rw [show (!decide (m = m)) = false by simp] at ht
    subst ht
    have HZ1 := Lib.hid hz1
    have HZ2 := Lib.hid hz2
    have HF := Lib.hid hF
    clear hz1 hz2 hF HT
    have k0 := HF.out.1.cell0
    have k1 := HF.out.1.cell1
    have k2 := HF.out.2.1.cell0
    have k3 := HF.out.2.1.cell1
    have e0 : rlen m (none : Option Mat) = 0 := rfl
    have e1 : rlen m (some C) = m * m := rfl
    have e2 := sq_pos h0
    go_wp2_with fail
    refine (none_any _ _ _ _ _).mono ?_
    rintro e w3 ⟨rfl, hb3⟩
    have HF3 := Lib.hid (HF.out.below hb3)
    have HZ3 := Lib.hid (HZ1.out.below hb3)
    have HZ4 := Lib.hid (HZ2.out.below hb3)
    clear hb3 k0 k1 k2 k3
    have k0 := HF3.out.1.cell0
    have k1 := HF3.out.1.cell1
    have k2 := HF3.out.2.1.cell0
    have k3 := HF3.out.2.1.cell1
    go_wp2_with fail
    refine (none_any _ _ _ _ _).mono ?_
    rintro e w4 ⟨rfl, hb4⟩
    have HF4 := Lib.hid (HF3.out.below hb4)
    have HZ5 := Lib.hid (HZ3.out.below hb4)
    have HZ6 := Lib.hid (HZ4.out.below hb4)
    clear hb4 k0 k1 k2 k3
    have k0 := HF4.out.1.cell0
    have k1 := HF4.out.1.cell1
    have k2 := HF4.out.2.1.cell0
    have k3 := HF4.out.2.1.cell1
    go_wp2_with fail
    go_ret
    exact ⟨rfl, HF4.out.2.2⟩

set_option maxRecDepth 100000 in
set_option maxHeartbeats 3200000 in
theorem leq_pts {w : World} {Na Nb : Int} {Aa Ab : Option Addr} {la lb ca cb m : Nat} {C D : Mat} (h0 : 0 < m) (h7 : m ≤ 7)
    (K : ∀ W, Below w.heap.size w W → Calls Tryd.prog 35 #[zoneV Na Aa la ca, zoneV Nb Ab lb cb] W (RetTwo W m m (some C) (some D))) :
    Calls Tryd.prog 17 #[zoneV Na Aa la ca, zoneV Nb Ab lb cb] w (RetB w (leB m C D)) := by
  have HT := Lib.hid (dob_new w (.int .i64 Na) (.int .i64 Nb) (.slice Aa la ca) (.slice Ab lb cb))
  have HK := Lib.hid (K _ HT.out.2.2)
  clear K
  go_enter Tryd.func17, Tryd.ntmps17
  go_upto_region 2 with (go_at_call 35; refine HK.out.mono ?_; rintro e w1 ⟨A, c1, B, c2, rfl, hz1, hz2, hb1⟩; have hF1 := HT.out.below hb1; have y0 := hF1.1.cell0; have y1 := hF1.1.cell1; have y2 := hF1.2.1.cell0; have y3 := hF1.2.1.cell1; have y4 := hF1.1.frozen0; have y5 := hF1.1.frozen1; have y6 := hF1.2.1.frozen0; have y7 := hF1.2.1.frozen1)
  go_cut [13] (fun t wx => Mid2 w m m (some C) (some D) t wx)
  case first =>
    have hM := mid2_mk HT.out hb1 hz1 hz2
    rw [show (!decide (m = m)) = false by simp] at hM
    have HM := Lib.hid hM
    clear hM hz1 hz2 hb1 hF1
    go_wp2_with fail
    go_meet
    exact HM.out
  case rest =>
    clear y0 y1 y2 y3 y4 y5 y6 y7 hF1 hz1 hz2 hb1 HK
    obtain ⟨A, c1, B, c2, ht, hz1, hz2, hF⟩ := hcut
    rw [show (!decide (m = m)) = false by simp] at ht
    subst ht
    have HZ1 := Lib.hid hz1
    have HZ2 := Lib.hid hz2
    have HF := Lib.hid hF
    clear hz1 hz2 hF HT
    have k0 := HF.out.1.cell0
    have k1 := HF.out.1.cell1
    have k2 := HF.out.2.1.cell0
    have k3 := HF.out.2.1.cell1
    have e1 : rlen m (some C) = m * m := rfl
    have e2 := sq_pos h0
    have e4 : rlen m (some D) = m * m := rfl
    go_wp2_with fail
    refine (none_any _ _ _ _ _).mono ?_
    rintro e w3 ⟨rfl, hb3⟩
    have HF3 := Lib.hid (HF.out.below hb3)
    have HZ3 := Lib.hid (HZ1.out.below hb3)
    have HZ4 := Lib.hid (HZ2.out.below hb3)
    clear hb3 k0 k1 k2 k3
    have k0 := HF3.out.1.cell0
    have k1 := HF3.out.1.cell1
    have k2 := HF3.out.2.1.cell0
    have k3 := HF3.out.2.1.cell1
    go_wp2_with fail
    refine (none_any _ _ _ _ _).mono ?_
    rintro e w4 ⟨rfl, hb4⟩
    have HF4 := Lib.hid (HF3.out.below hb4)
    have HZ5 := Lib.hid (HZ3.out.below hb4)
    have HZ6 := Lib.hid (HZ4.out.below hb4)
    clear hb4 k0 k1 k2 k3
    have k0 := HF4.out.1.cell0
    have k1 := HF4.out.1.cell1
    have k2 := HF4.out.2.1.cell0
    have k3 := HF4.out.2.1.cell1
    obtain ⟨g1, rfl, hC, o1⟩ := zres_some HZ5.out
    obtain ⟨g2, rfl, hD, o2⟩ := zres_some HZ6.out
    have O1 := Lib.hid o1
    have O2 := Lib.hid o2
    clear o1 o2 hC hD HZ1 HZ2 HZ3 HZ4 HZ5 HZ6 HF HF3
    go_wp2_with fail
    refine (within_any m h7 h0 C D g1 g2 c1 c2 _ _ O1.out O2.out).mono ?_
    rintro e w5 ⟨rfl, hb5⟩
    have HB5 := Lib.hid (HF4.out.2.2.trans (hb5.mono HF4.out.2.2.size))
    clear hb5 k0 k1 k2 k3
    go_wp2_with fail
    go_ret
    exact ⟨rfl, HB5.out⟩

theorem leq_any {w : World} {Na Nb : Int} {Aa Ab : Option Addr} {la lb ca cb ma mb : Nat} {Ra Rb : Option Mat} (h0 : 0 < ma) (h7 : ma ≤ 7)
    (K : ∀ W, Below w.heap.size w W → Calls Tryd.prog 35 #[zoneV Na Aa la ca, zoneV Nb Ab lb cb] W (RetTwo W ma mb Ra Rb)) :
    Calls Tryd.prog 17 #[zoneV Na Aa la ca, zoneV Nb Ab lb cb] w (RetB w (leqO ma mb Ra Rb)) := by
  by_cases hm : ma = mb
  · subst hm
    cases Ra with
    | none => have e : leqO ma ma none Rb = true := by unfold leqO; simp
              rw [e]; exact leq_na K
    | some C =>
      cases Rb with
      | none => exact leq_nb h0 K
      | some D => have e : leqO ma ma (some C) (some D) = leB ma C D := by unfold leqO; simp
                  rw [e]; exact leq_pts h0 h7 K
  · have e : leqO ma mb Ra Rb = false := by unfold leqO; cases Ra <;> cases Rb <;> simp [hm]
    rw [e]
    exact leq_off hm K
end Go.Proofs.YtlkbapcienjdcaaDoor
