/- The contracts of Meet and Join: any two zones. -/
import Derived.Test.YtlddelnbjihhgaaGreatDoorTwo
import Derived.Deep.RegionHeld3
import Derived.Lib.MinMax
namespace Go.Proofs.YtlddelnbjihhgaaGreatDoor
open Go.RowKit
attribute [local go_sem ↓] Go.wp_at_zero Go.wp_at_succ

theorem keep_pair {W X Y : World} (hb : Below X.heap.size X Y) {p q : Nat} {a b c d : Option Value} (h : Below W.heap.size W X ∧ p < X.heap.size ∧ q < X.heap.size ∧ X.cell? ⟨p, 0, none⟩ = a ∧ X.cell? ⟨p, 1, none⟩ = b ∧ X.cell? ⟨q, 0, none⟩ = c ∧ X.cell? ⟨q, 1, none⟩ = d) :
    Below W.heap.size W Y ∧ p < Y.heap.size ∧ q < Y.heap.size ∧ Y.cell? ⟨p, 0, none⟩ = a ∧ Y.cell? ⟨p, 1, none⟩ = b ∧ Y.cell? ⟨q, 0, none⟩ = c ∧ Y.cell? ⟨q, 1, none⟩ = d := by
  obtain ⟨h0, h1, h2, h3, h4, h5, h6⟩ := h
  have hs := hb.size
  exact ⟨h0.trans (hb.mono h0.size), by omega, by omega, (hb.cell (p := ⟨p, 0, none⟩) h1).trans h3, (hb.cell (p := ⟨p, 1, none⟩) h1).trans h4, (hb.cell (p := ⟨q, 0, none⟩) h2).trans h5, (hb.cell (p := ⟨q, 1, none⟩) h2).trans h6⟩

set_option maxRecDepth 100000 in
set_option maxHeartbeats 1600000 in
theorem join_fn {m i j : Nat} (hm7 : m ≤ 7) (hi : i < m) (hj : j < m) {p q g1 g2 c1 c2 base : Nat} {C D : Mat} {W : World} (h1 : Duo W p 32 (.int .i64 ((m : Int) - 1)) (.slice (some ⟨g1, 0, none⟩) (m * m) c1)) (h2 : Duo W q 32 (.int .i64 ((m : Int) - 1)) (.slice (some ⟨g2, 0, none⟩) (m * m) c2))
    (o1 : W.ownsRow base 3 1 (.slice (some ⟨g1, 0, none⟩) (m * m) c1) (m * m) ((flatL m C).map (Value.int .i64))) (o2 : W.ownsRow base 3 1 (.slice (some ⟨g2, 0, none⟩) (m * m) c2) (m * m) ((flatL m D).map (Value.int .i64))) :
    Calls Tryz.prog 75 #[.int .i64 (i : Int), .int .i64 (j : Int), .pointer (some ⟨p, 0, none⟩), .pointer (some ⟨q, 0, none⟩)] W (ZRetInt (max (C i j) (D i j)) W) := by
  have HA := Lib.hid (fun (X : World) (hb : Below W.heap.size W X) => at_own hm7 hi hj (own_kept_below o1 hb))
  have HB := Lib.hid (fun (X : World) (hb : Below W.heap.size W X) => at_own hm7 hi hj (own_kept_below o2 hb))
  have K0 : Hid (Below W.heap.size W W.drew ∧ p < W.drew.heap.size ∧ q < W.drew.heap.size ∧ W.drew.cell? ⟨p, 0, none⟩ = some (.int .i64 ((m : Int) - 1)) ∧ W.drew.cell? ⟨p, 1, none⟩ = some (.slice (some ⟨g1, 0, none⟩) (m * m) c1) ∧ W.drew.cell? ⟨q, 0, none⟩ = some (.int .i64 ((m : Int) - 1)) ∧ W.drew.cell? ⟨q, 1, none⟩ = some (.slice (some ⟨g2, 0, none⟩) (m * m) c2)) := Lib.hid ⟨(Below.refl _ _).drew, h1.lt, h2.lt, h1.cell0, h1.cell1, h2.cell0, h2.cell1⟩
  generalize C i j = x at *
  generalize D i j = y at *
  clear h1 h2 o1 o2 hi hj
  go_enter Tryz.func75, Tryz.ntmps75
  go_wp2_with fail
  go_region_held3 (fun w' => Below W.heap.size W w' ∧ p < w'.heap.size ∧ q < w'.heap.size ∧ w'.cell? ⟨p, 0, none⟩ = some (.int .i64 ((m : Int) - 1)) ∧ w'.cell? ⟨p, 1, none⟩ = some (.slice (some ⟨g1, 0, none⟩) (m * m) c1) ∧ w'.cell? ⟨q, 0, none⟩ = some (.int .i64 ((m : Int) - 1)) ∧ w'.cell? ⟨q, 1, none⟩ = some (.slice (some ⟨g2, 0, none⟩) (m * m) c2))
    (first | (with_reducible exact K0.out) | (with_reducible exact keep_pair hb1 K0.out) | (with_reducible exact keep_pair hb2 (keep_pair hb1 K0.out)))
    (first
      | (go_at_call 40; ((with_reducible refine (HA.out _ K0.out.1).mono ?_); rintro e w1 ⟨rfl, hb1⟩))
      | (go_at_call 40; ((with_reducible refine (HB.out _ (K0.out.1.trans (hb1.mono K0.out.1.size))).mono ?_); rintro e w2 ⟨rfl, hb2⟩)))
  all_goals go_wp2_with fail
  go_ret
  exact ⟨rfl, (K0.out.1.trans (hb1.mono K0.out.1.size)).trans (hb2.mono (K0.out.1.trans (hb1.mono K0.out.1.size)).size)⟩

/-- Three boxes of zones. -/
def Thr (w W : World) (a b c a' b' c' : Value) : Prop := Duo W w.heap.size 32 a a' ∧ Duo W (w.heap.size + 1) 32 b b' ∧ Duo W (w.heap.size + 1 + 1) 32 c c' ∧ Below w.heap.size w W
theorem Thr.below {w W W1 : World} {a b c a' b' c' : Value} (h : Thr w W a b c a' b' c') (hb : Below W.heap.size W W1) : Thr w W1 a b c a' b' c' := ⟨h.1.below hb, h.2.1.below hb, h.2.2.1.below hb, h.2.2.2.trans (hb.mono h.2.2.2.size)⟩
theorem thr_new (w : World) (a b c a' b' c' : Value) : Thr w (((w.alloc (.cells #[a, a'] 32)).alloc (.cells #[b, b'] 32)).alloc (.cells #[c, c'] 32)) a b c a' b' c' := by
  have h1 := Duo.new (w.alloc (.cells #[a, a'] 32)) 32 b b'
  have h2 := Duo.new ((w.alloc (.cells #[a, a'] 32)).alloc (.cells #[b, b'] 32)) 32 c c'
  simp only [World.size_alloc] at h1 h2
  exact ⟨((Duo.new w _ _ _).alloc _).alloc _, h1.alloc _, h2, (((Below.refl _ w).alloc (Nat.le_refl _) _).alloc (by simp) _).alloc (by simp; omega) _⟩
theorem Thr.put {w W : World} {a b c a' b' c' : Value} (h : Thr w W a b c a' b' c') (x y x' y' : Value) :
    Thr w ((((W.setCell ⟨w.heap.size, 0, none⟩ x).setCell ⟨w.heap.size, 1, none⟩ x').setCell ⟨w.heap.size + 1, 0, none⟩ y).setCell ⟨w.heap.size + 1, 1, none⟩ y') x y c x' y' c' := by
  obtain ⟨h1, h2, h3, h5⟩ := h
  refine ⟨(((h1.set0 x).set1 x').other (by simp) _).other (by simp) _, ((((h2.other (by simp) _).other (by simp) _).set0 y).set1 y'), (((h3.other (by simp; omega) _).other (by simp; omega) _).other (by simp) _).other (by simp) _, ?_⟩
  exact (((h5.setCell (p := ⟨w.heap.size, 0, none⟩) (by simp) _).setCell (p := ⟨w.heap.size, 1, none⟩) (by simp) _).setCell (p := ⟨w.heap.size + 1, 0, none⟩) (by simp) _).setCell (p := ⟨w.heap.size + 1, 1, none⟩) (by simp) _
/-- The result, put into the third box. -/
theorem Thr.last {w W : World} {a b c a' b' c' : Value} (h : Thr w W a b c a' b' c') (x x' : Value) : Duo ((W.setCell ⟨w.heap.size + 1 + 1, 0, none⟩ x).setCell ⟨w.heap.size + 1 + 1, 1, none⟩ x') (w.heap.size + 1 + 1) 32 x x' ∧ Below w.heap.size w ((W.setCell ⟨w.heap.size + 1 + 1, 0, none⟩ x).setCell ⟨w.heap.size + 1 + 1, 1, none⟩ x') :=
  ⟨(h.2.2.1.set0 x).set1 x', (h.2.2.2.setCell (p := ⟨w.heap.size + 1 + 1, 0, none⟩) (by simp; omega) x).setCell (p := ⟨w.heap.size + 1 + 1, 1, none⟩) (by simp; omega) x'⟩
/-- Behind 'a, b, fit := two(a, b)'. -/
def Mid (w : World) (ma mb : Nat) (Ra Rb : Option Mat) (t : Value) (wx : World) : Prop :=
  ∃ A ca B cb, t = .bool (!decide (ma = mb)) ∧ ZRes wx w.heap.size ma Ra (zoneV ((ma : Int) - 1) A (rlen ma Ra) ca) ∧ ZRes wx w.heap.size mb Rb (zoneV ((mb : Int) - 1) B (rlen mb Rb) cb) ∧
    Thr w wx (.int .i64 ((ma : Int) - 1)) (.int .i64 ((mb : Int) - 1)) (.int .i64 0) (.slice A (rlen ma Ra) ca) (.slice B (rlen mb Rb) cb) (.slice none 0 0)
theorem mid_mk {w W w1 : World} {ma mb : Nat} {Ra Rb : Option Mat} {a b a' b' : Value} {A B : Option Addr} {c1 c2 : Nat} (hF : Thr w W a b (.int .i64 0) a' b' (.slice none 0 0)) (hb1 : Below W.heap.size W w1)
    (hz1 : ZRes w1 W.heap.size ma Ra (zoneV ((ma : Int) - 1) A (rlen ma Ra) c1)) (hz2 : ZRes w1 W.heap.size mb Rb (zoneV ((mb : Int) - 1) B (rlen mb Rb) c2)) :
    Mid w ma mb Ra Rb (.bool (!decide (ma = mb))) ((((w1.setCell ⟨w.heap.size, 0, none⟩ (.int .i64 ((ma : Int) - 1))).setCell ⟨w.heap.size, 1, none⟩ (.slice A (rlen ma Ra) c1)).setCell ⟨w.heap.size + 1, 0, none⟩ (.int .i64 ((mb : Int) - 1))).setCell ⟨w.heap.size + 1, 1, none⟩ (.slice B (rlen mb Rb) c2)) := by
  have hsz : w.heap.size + 1 + 1 < W.heap.size := hF.2.2.1.lt
  have q1 := (((hz1.setCell (a := ⟨w.heap.size, 0, none⟩) (by simp; omega) (.int .i64 ((ma : Int) - 1))).setCell (a := ⟨w.heap.size, 1, none⟩) (by simp; omega) (.slice A (rlen ma Ra) c1)).setCell (a := ⟨w.heap.size + 1, 0, none⟩) (by simp; omega) (.int .i64 ((mb : Int) - 1))).setCell (a := ⟨w.heap.size + 1, 1, none⟩) (by simp; omega) (.slice B (rlen mb Rb) c2)
  have q2 := (((hz2.setCell (a := ⟨w.heap.size, 0, none⟩) (by simp; omega) (.int .i64 ((ma : Int) - 1))).setCell (a := ⟨w.heap.size, 1, none⟩) (by simp; omega) (.slice A (rlen ma Ra) c1)).setCell (a := ⟨w.heap.size + 1, 0, none⟩) (by simp; omega) (.int .i64 ((mb : Int) - 1))).setCell (a := ⟨w.heap.size + 1, 1, none⟩) (by simp; omega) (.slice B (rlen mb Rb) c2)
  exact ⟨A, c1, B, c2, rfl, q1.lower (by omega), q2.lower (by omega), (hF.below hb1).put _ _ _ _⟩

/-- What is in both. -/
def minM (C D : Mat) : Mat := fun i j => min (C i j) (D i j)
def maxM (C D : Mat) : Mat := fun i j => max (C i j) (D i j)
def setR (m : Nat) (A : Mat) : Option Mat := if aliveB m A = true then some (lev A m) else none
theorem setR_yes {m : Nat} {A : Mat} (h : Alive m A) : setR m A = some (lev A m) := if_pos ((aliveB_iff _ _).2 h)
theorem setR_no {m : Nat} {A : Mat} (h : ¬ Alive m A) : setR m A = none := if_neg (fun e => h ((aliveB_iff _ _).1 e))
def mtR (m : Nat) : Option Mat → Option Mat → Option Mat
  | some C, some D => setR m (minM C D)
  | _, _ => none
/-- One walk to where both are known, for each case. -/
theorem sq_pos {m : Nat} (h0 : 0 < m) : decide (m * m = 0) = false := decide_eq_false (by have := Nat.mul_pos h0 h0; omega)
theorem zres_some {W : World} {base m L c : Nat} {C : Mat} {A : Option Addr} (h : ZRes W base m (some C) (zoneV ((m : Int) - 1) A L c)) : ∃ g, A = some ⟨g, 0, none⟩ ∧ Closed m C ∧ W.ownsRow base 3 1 (.slice (some ⟨g, 0, none⟩) (m * m) c) (m * m) ((flatL m C).map (Value.int .i64)) := by
  obtain ⟨hC, g, cap, e, ho⟩ := h
  injection e with e
  simp at e
  obtain ⟨e1, e2, e3⟩ := e
  subst e1
  subst e3
  exact ⟨g, rfl, hC, ho⟩
theorem max_closed {m : Nat} {C D : Mat} (h : Closed m C) (g : Closed m D) : Closed m (maxM C D) := by
  refine ⟨fun i hi => ?_, fun i j hi hj => ?_, fun k i j hk hi hj => ?_⟩ <;> unfold maxM
  · rw [h.diag i hi, g.diag i hi]; rfl
  · have h1 := h.near i j hi hj
    have h2 := g.near i j hi hj
    omega
  · have h1 := h.tri k i j hk hi hj
    have h2 := g.tri k i j hk hi hj
    omega

set_option maxRecDepth 100000 in
set_option maxHeartbeats 3200000 in
theorem join_off {w : World} {Na Nb : Int} {Aa Ab : Option Addr} {la lb ca cb ma mb : Nat} {Ra Rb : Option Mat} (hm : ma ≠ mb)
    (K : ∀ W, Below w.heap.size w W → Calls Tryz.prog 58 #[zoneV Na Aa la ca, zoneV Nb Ab lb cb] W (RetTwo W ma mb Ra Rb)) :
    Calls Tryz.prog 32 #[zoneV Na Aa la ca, zoneV Nb Ab lb cb] w (RetC w 1 none) := by
  have HT := Lib.hid (thr_new w (.int .i64 Na) (.int .i64 Nb) (.int .i64 0) (.slice Aa la ca) (.slice Ab lb cb) (.slice none 0 0))
  have HK := Lib.hid (K _ HT.out.2.2.2)
  clear K
  have HM0 := Lib.hid hm
  clear hm
  go_enter Tryz.func32, Tryz.ntmps32
  go_upto_region 2 with (go_at_call 58; refine HK.out.mono ?_; rintro e w1 ⟨A, c1, B, c2, rfl, hz1, hz2, hb1⟩; have hF1 := HT.out.below hb1; have y0 := hF1.1.cell0; have y1 := hF1.1.cell1; have y2 := hF1.2.1.cell0; have y3 := hF1.2.1.cell1; have y4 := hF1.1.frozen0; have y5 := hF1.1.frozen1; have y6 := hF1.2.1.frozen0; have y7 := hF1.2.1.frozen1)
  go_cut [13] (fun t wx => Mid w ma mb Ra Rb t wx)
  case first =>
    have hM := mid_mk HT.out hb1 hz1 hz2
    have HM := Lib.hid hM
    clear hM hz1 hz2 hb1 hF1
    go_wp2_with fail
    go_meet
    exact HM.out
  case rest =>
    clear y0 y1 y2 y3 y4 y5 y6 y7 hF1 hz1 hz2 hb1 HK
    obtain ⟨A, c1, B, c2, ht, hz1, hz2, hF⟩ := hcut
    rw [show (!decide (ma = mb)) = true by rw [decide_eq_false HM0.out]; rfl] at ht
    subst ht
    have HZ1 := Lib.hid hz1
    have HZ2 := Lib.hid hz2
    have HF := Lib.hid hF
    clear hz1 hz2 hF HT
    have k0 := HF.out.1.cell0
    have k1 := HF.out.1.cell1
    have k2 := HF.out.2.1.cell0
    have k3 := HF.out.2.1.cell1
    go_wp2_with (go_at_call 30; refine (bottom_any _ _).mono ?_; rintro e w2 ⟨rfl, hb2⟩; have hF2 := HF.out.below hb2; have d0 := hF2.2.2.1.cell0; have d1 := hF2.2.2.1.cell1; have f0 := hF2.2.2.1.frozen0; have f1 := hF2.2.2.1.frozen1)
    have hL := hF2.last (.int .i64 0) (.slice none 0 0)
    exact post_cell (rb := w.heap.size + 1 + 1) Tryz.results32 rfl rfl hL.1 ⟨none, 0, rfl, rfl, hL.2⟩

set_option maxRecDepth 100000 in
set_option maxHeartbeats 3200000 in
theorem join_na {w : World} {Na Nb : Int} {Aa Ab : Option Addr} {la lb ca cb m : Nat} {Rb : Option Mat}
    (K : ∀ W, Below w.heap.size w W → Calls Tryz.prog 58 #[zoneV Na Aa la ca, zoneV Nb Ab lb cb] W (RetTwo W m m none Rb)) :
    Calls Tryz.prog 32 #[zoneV Na Aa la ca, zoneV Nb Ab lb cb] w (RetC w m Rb) := by
  have HT := Lib.hid (thr_new w (.int .i64 Na) (.int .i64 Nb) (.int .i64 0) (.slice Aa la ca) (.slice Ab lb cb) (.slice none 0 0))
  have HK := Lib.hid (K _ HT.out.2.2.2)
  clear K
  go_enter Tryz.func32, Tryz.ntmps32
  go_upto_region 2 with (go_at_call 58; refine HK.out.mono ?_; rintro e w1 ⟨A, c1, B, c2, rfl, hz1, hz2, hb1⟩; have hF1 := HT.out.below hb1; have y0 := hF1.1.cell0; have y1 := hF1.1.cell1; have y2 := hF1.2.1.cell0; have y3 := hF1.2.1.cell1; have y4 := hF1.1.frozen0; have y5 := hF1.1.frozen1; have y6 := hF1.2.1.frozen0; have y7 := hF1.2.1.frozen1)
  go_cut [13] (fun t wx => Mid w m m none Rb t wx)
  case first =>
    have hM := mid_mk HT.out hb1 hz1 hz2
    rw [show (!decide (m = m)) = false by simp] at hM
    have HM := Lib.hid hM
    clear hM hz1 hz2 hb1 hF1
    go_wp2_with fail
    go_meet
    exact HM.out
  case rest =>
    clear y0 y1 y2 y3 y4 y5 y6 y7 hF1 hz1 hz2 hb1 HK
    obtain ⟨A, c1, B, c2, ht, hz1, hz2, hF⟩ := hcut
    rw [show (!decide (m = m)) = false by simp] at ht
    subst ht
    have HZ1 := Lib.hid hz1
    have HZ2 := Lib.hid hz2
    have HF := Lib.hid hF
    clear hz1 hz2 hF HT
    have k0 := HF.out.1.cell0
    have k1 := HF.out.1.cell1
    have k2 := HF.out.2.1.cell0
    have k3 := HF.out.2.1.cell1
    have e0 : rlen m (none : Option Mat) = 0 := rfl
    go_wp2_with fail
    refine (none_any _ _ _ _ _).mono ?_
    rintro e w3 ⟨rfl, hb3⟩
    have HF3 := Lib.hid (HF.out.below hb3)
    have HZ3 := Lib.hid (HZ1.out.below hb3)
    have HZ4 := Lib.hid (HZ2.out.below hb3)
    clear hb3 k0 k1 k2 k3
    have k0 := HF3.out.1.cell0
    have k1 := HF3.out.1.cell1
    have k2 := HF3.out.2.1.cell0
    have k3 := HF3.out.2.1.cell1
    have d0 := HF3.out.2.2.1.cell0
    have d1 := HF3.out.2.2.1.cell1
    have f0 := HF3.out.2.2.1.frozen0
    have f1 := HF3.out.2.2.1.frozen1
    go_wp2_with fail
    have hL := HF3.out.last (.int .i64 ((m : Int) - 1)) (.slice B (rlen m Rb) c2)
    exact post_cell (rb := w.heap.size + 1 + 1) Tryz.results32 rfl rfl hL.1 ⟨B, c2, rfl, (HZ4.out.setBox HF3.out.2.2.1 _).setBox (HF3.out.2.2.1.set0 _) _, hL.2⟩

set_option maxRecDepth 100000 in
set_option maxHeartbeats 3200000 in
theorem join_nb {w : World} {Na Nb : Int} {Aa Ab : Option Addr} {la lb ca cb m : Nat} {C : Mat} (h0 : 0 < m)
    (K : ∀ W, Below w.heap.size w W → Calls Tryz.prog 58 #[zoneV Na Aa la ca, zoneV Nb Ab lb cb] W (RetTwo W m m (some C) none)) :
    Calls Tryz.prog 32 #[zoneV Na Aa la ca, zoneV Nb Ab lb cb] w (RetC w m (some C)) := by
  have HT := Lib.hid (thr_new w (.int .i64 Na) (.int .i64 Nb) (.int .i64 0) (.slice Aa la ca) (.slice Ab lb cb) (.slice none 0 0))
  have HK := Lib.hid (K _ HT.out.2.2.2)
  clear K
  go_enter Tryz.func32, Tryz.ntmps32
  go_upto_region 2 with (go_at_call 58; refine HK.out.mono ?_; rintro e w1 ⟨A, c1, B, c2, rfl, hz1, hz2, hb1⟩; have hF1 := HT.out.below hb1; have y0 := hF1.1.cell0; have y1 := hF1.1.cell1; have y2 := hF1.2.1.cell0; have y3 := hF1.2.1.cell1; have y4 := hF1.1.frozen0; have y5 := hF1.1.frozen1; have y6 := hF1.2.1.frozen0; have y7 := hF1.2.1.frozen1)
  go_cut [13] (fun t wx => Mid w m m (some C) none t wx)
  case first =>
    have hM := mid_mk HT.out hb1 hz1 hz2
    rw [show (!decide (m = m)) = false by simp] at hM
    have HM := Lib.hid hM
    clear hM hz1 hz2 hb1 hF1
    go_wp2_with fail
    go_meet
    exact HM.out
  case rest =>
    clear y0 y1 y2 y3 y4 y5 y6 y7 hF1 hz1 hz2 hb1 HK
    obtain ⟨A, c1, B, c2, ht, hz1, hz2, hF⟩ := hcut
    rw [show (!decide (m = m)) = false by simp] at ht
    subst ht
    have HZ1 := Lib.hid hz1
    have HZ2 := Lib.hid hz2
    have HF := Lib.hid hF
    clear hz1 hz2 hF HT
    have k0 := HF.out.1.cell0
    have k1 := HF.out.1.cell1
    have k2 := HF.out.2.1.cell0
    have k3 := HF.out.2.1.cell1
    have e0 : rlen m (none : Option Mat) = 0 := rfl
    have e1 : rlen m (some C) = m * m := rfl
    have e2 := sq_pos h0
    go_wp2_with fail
    refine (none_any _ _ _ _ _).mono ?_
    rintro e w3 ⟨rfl, hb3⟩
    have HF3 := Lib.hid (HF.out.below hb3)
    have HZ3 := Lib.hid (HZ1.out.below hb3)
    have HZ4 := Lib.hid (HZ2.out.below hb3)
    clear hb3 k0 k1 k2 k3
    have k0 := HF3.out.1.cell0
    have k1 := HF3.out.1.cell1
    have k2 := HF3.out.2.1.cell0
    have k3 := HF3.out.2.1.cell1
    go_wp2_with fail
    refine (none_any _ _ _ _ _).mono ?_
    rintro e w4 ⟨rfl, hb4⟩
    have HF4 := Lib.hid (HF3.out.below hb4)
    have HZ5 := Lib.hid (HZ3.out.below hb4)
    have HZ6 := Lib.hid (HZ4.out.below hb4)
    clear hb4 k0 k1 k2 k3
    have k0 := HF4.out.1.cell0
    have k1 := HF4.out.1.cell1
    have k2 := HF4.out.2.1.cell0
    have k3 := HF4.out.2.1.cell1
    have d0 := HF4.out.2.2.1.cell0
    have d1 := HF4.out.2.2.1.cell1
    have f0 := HF4.out.2.2.1.frozen0
    have f1 := HF4.out.2.2.1.frozen1
    go_wp2_with fail
    have hL := HF4.out.last (.int .i64 ((m : Int) - 1)) (.slice A (rlen m (some C)) c1)
    exact post_cell (rb := w.heap.size + 1 + 1) Tryz.results32 rfl rfl hL.1 ⟨A, c1, rfl, (HZ5.out.setBox HF4.out.2.2.1 _).setBox (HF4.out.2.2.1.set0 _) _, hL.2⟩

set_option maxRecDepth 100000 in
set_option maxHeartbeats 3200000 in
theorem join_pts {w : World} {Na Nb : Int} {Aa Ab : Option Addr} {la lb ca cb m : Nat} {C D : Mat} (h0 : 0 < m) (h7 : m ≤ 7)
    (K : ∀ W, Below w.heap.size w W → Calls Tryz.prog 58 #[zoneV Na Aa la ca, zoneV Nb Ab lb cb] W (RetTwo W m m (some C) (some D))) :
    Calls Tryz.prog 32 #[zoneV Na Aa la ca, zoneV Nb Ab lb cb] w (RetC w m (some (maxM C D))) := by
  have HT := Lib.hid (thr_new w (.int .i64 Na) (.int .i64 Nb) (.int .i64 0) (.slice Aa la ca) (.slice Ab lb cb) (.slice none 0 0))
  have HK := Lib.hid (K _ HT.out.2.2.2)
  clear K
  go_enter Tryz.func32, Tryz.ntmps32
  go_upto_region 2 with (go_at_call 58; refine HK.out.mono ?_; rintro e w1 ⟨A, c1, B, c2, rfl, hz1, hz2, hb1⟩; have hF1 := HT.out.below hb1; have y0 := hF1.1.cell0; have y1 := hF1.1.cell1; have y2 := hF1.2.1.cell0; have y3 := hF1.2.1.cell1; have y4 := hF1.1.frozen0; have y5 := hF1.1.frozen1; have y6 := hF1.2.1.frozen0; have y7 := hF1.2.1.frozen1)
  go_cut [13] (fun t wx => Mid w m m (some C) (some D) t wx)
  case first =>
    have hM := mid_mk HT.out hb1 hz1 hz2
    rw [show (!decide (m = m)) = false by simp] at hM
    have HM := Lib.hid hM
    clear hM hz1 hz2 hb1 hF1
    go_wp2_with fail
    go_meet
    exact HM.out
  case rest =>
    clear y0 y1 y2 y3 y4 y5 y6 y7 hF1 hz1 hz2 hb1 HK
    obtain ⟨A, c1, B, c2, ht, hz1, hz2, hF⟩ := hcut
    rw [show (!decide (m = m)) = false by simp] at ht
    subst ht
    have HZ1 := Lib.hid hz1
    have HZ2 := Lib.hid hz2
    have HF := Lib.hid hF
    clear hz1 hz2 hF HT
    have k0 := HF.out.1.cell0
    have k1 := HF.out.1.cell1
    have k2 := HF.out.2.1.cell0
    have k3 := HF.out.2.1.cell1
    have e1 : rlen m (some C) = m * m := rfl
    have e2 := sq_pos h0
    have e4 : rlen m (some D) = m * m := rfl
    go_wp2_with fail
    refine (none_any _ _ _ _ _).mono ?_
    rintro e w3 ⟨rfl, hb3⟩
    have HF3 := Lib.hid (HF.out.below hb3)
    have HZ3 := Lib.hid (HZ1.out.below hb3)
    have HZ4 := Lib.hid (HZ2.out.below hb3)
    clear hb3 k0 k1 k2 k3
    have k0 := HF3.out.1.cell0
    have k1 := HF3.out.1.cell1
    have k2 := HF3.out.2.1.cell0
    have k3 := HF3.out.2.1.cell1
    go_wp2_with fail
    refine (none_any _ _ _ _ _).mono ?_
    rintro e w4 ⟨rfl, hb4⟩
    have HF4 := Lib.hid (HF3.out.below hb4)
    have HZ5 := Lib.hid (HZ3.out.below hb4)
    have HZ6 := Lib.hid (HZ4.out.below hb4)
    clear hb4 k0 k1 k2 k3
    have k0 := HF4.out.1.cell0
    have k1 := HF4.out.1.cell1
    have k2 := HF4.out.2.1.cell0
    have k3 := HF4.out.2.1.cell1
    obtain ⟨g1, rfl, hC, o1⟩ := zres_some HZ5.out
    obtain ⟨g2, rfl, hD, o2⟩ := zres_some HZ6.out
    have O1 := Lib.hid o1
    have O2 := Lib.hid o2
    have HC := Lib.hid hC
    have HD := Lib.hid hD
    clear o1 o2 hC hD HZ1 HZ2 HZ3 HZ4 HZ5 HZ6 HF HF3
    go_wp2_with fail
    refine (fill_any 75 #[.pointer (some ⟨w.heap.size, 0, none⟩), .pointer (some ⟨w.heap.size + 1, 0, none⟩)] m h7 h0 (maxM C D) _ (enters_of Tryz.func75 (by kernel_rfl) rfl) (fun i j W hi hj hbW => ?_)).mono ?_
    · have hF5 := HF4.out.below hbW
      exact join_fn h7 hi hj hF5.1 hF5.2.1 (own_kept_below O1.out hbW) (own_kept_below O2.out hbW)
    rintro e w5 ⟨v5, rfl, ho5, hb5⟩
    obtain ⟨g5, c5, rfl⟩ := own_slice ho5 (Nat.mul_pos h0 h0)
    have hF5 := HF4.out.below hb5
    have hg5 := (ho5.lt g5 rfl).1
    have hs4 := HF4.out.2.2.1.lt
    have ho5' := own_lower ho5 HF4.out.2.2.2.size
    have HF5 := Lib.hid hF5
    have HO5 := Lib.hid ho5'
    clear ho5 ho5' hb5 k0 k1 k2 k3 hF5
    have d0 := HF5.out.2.2.1.cell0
    have d1 := HF5.out.2.2.1.cell1
    have f0 := HF5.out.2.2.1.frozen0
    have f1 := HF5.out.2.2.1.frozen1
    go_wp2_with fail
    refine post_cell (rb := w.heap.size + 1 + 1) Tryz.results32 rfl rfl ((HF5.out.2.2.1.set0 _).set1 _) ⟨_, c5, rfl, ⟨max_closed HC.out HD.out, g5, c5, rfl, ?_⟩, (HF5.out.2.2.2.setCell (p := ⟨w.heap.size + 1 + 1, 0, none⟩) (by simp; omega) _).setCell (p := ⟨w.heap.size + 1 + 1, 1, none⟩) (by simp; omega) _⟩
    exact (HO5.out.kept (duo_grown_setCell _ _ _) (.inr (by simp [Value.ownBlock]; omega))).kept (duo_grown_setCell _ _ _) (.inr (by simp [Value.ownBlock]; omega))

def meM (ma mb : Nat) : Nat := if ma = mb then ma else 1
def mtO (ma mb : Nat) (Ra Rb : Option Mat) : Option Mat := if ma = mb then mtR ma Ra Rb else none
def jnO (ma mb : Nat) : Option Mat → Option Mat → Option Mat
  | some C, some D => if ma = mb then some (maxM C D) else none
  | none, R => if ma = mb then R else none
  | some C, none => if ma = mb then some C else none
theorem join_any {w : World} {Na Nb : Int} {Aa Ab : Option Addr} {la lb ca cb ma mb : Nat} {Ra Rb : Option Mat} (h0 : 0 < ma) (h7 : ma ≤ 7)
    (K : ∀ W, Below w.heap.size w W → Calls Tryz.prog 58 #[zoneV Na Aa la ca, zoneV Nb Ab lb cb] W (RetTwo W ma mb Ra Rb)) :
    Calls Tryz.prog 32 #[zoneV Na Aa la ca, zoneV Nb Ab lb cb] w (RetC w (meM ma mb) (jnO ma mb Ra Rb)) := by
  unfold meM
  by_cases hm : ma = mb
  · subst hm
    rw [if_pos rfl]
    cases Ra with
    | none => have e : jnO ma ma none Rb = Rb := by unfold jnO; cases Rb <;> simp
              rw [e]; exact join_na K
    | some C =>
      cases Rb with
      | none => have e : jnO ma ma (some C) none = some C := by unfold jnO; simp
                rw [e]; exact join_nb h0 K
      | some D => have e : jnO ma ma (some C) (some D) = some (maxM C D) := by unfold jnO; simp
                  rw [e]; exact join_pts h0 h7 K
  · rw [if_neg hm]
    have e : jnO ma mb Ra Rb = none := by unfold jnO; cases Ra <;> cases Rb <;> simp [hm]
    rw [e]
    exact join_off hm K
end Go.Proofs.YtlddelnbjihhgaaGreatDoor
