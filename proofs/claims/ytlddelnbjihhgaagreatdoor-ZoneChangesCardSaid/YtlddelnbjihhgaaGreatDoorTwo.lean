/- The contract of two: both zones, as they are taken, and whether they are of one N. -/
import Derived.Test.YtlddelnbjihhgaaGreatDoorClose
import Derived.Deep.RegionWith
import Derived.Deep.DeepCutAuto
import Derived.BigRegion
namespace Go.Proofs.YtlddelnbjihhgaaGreatDoor
open Go.RowKit
attribute [local go_sem ↓] Go.wp_at_zero Go.wp_at_succ

/-- A right zone is handed back. -/
def RetC (w : World) (m : Nat) (R : Option Mat) (e : Ending) (w' : World) : Prop := ∃ A cap, e = .returned (zoneV ((m : Int) - 1) A (rlen m R) cap) ∧ ZRes w' w.heap.size m R (zoneV ((m : Int) - 1) A (rlen m R) cap) ∧ Below w.heap.size w w'
theorem RetZ.shape {w : World} {m : Nat} {R : Option Mat} {e : Ending} {w' : World} (h : RetZ w m R e w') : RetC w m R e w' := by
  obtain ⟨v, rfl, hv, hb⟩ := h
  cases R with
  | none => have hv : v = zoneV ((m : Int) - 1) none 0 0 := hv
            subst hv; exact ⟨none, 0, rfl, rfl, hb⟩
  | some C => obtain ⟨hc, g, cap, rfl, ho⟩ := hv; exact ⟨_, cap, rfl, ⟨hc, g, cap, rfl, ho⟩, hb⟩
theorem close_z {w : World} {v : Value} {N : Int} {len : Nat} {f : Nat → Int} (h : ZArg w v N len f) : Calls Tryz.prog 34 #[v] w (RetC w (zm N) (zr N len f)) := (close_any h).mono fun _ _ h => h.shape

/-- Four boxes of zones. -/
def Four (w W : World) (a b c d a' b' c' d' : Value) : Prop := Duo W w.heap.size 32 a a' ∧ Duo W (w.heap.size + 1) 32 b b' ∧ Duo W (w.heap.size + 1 + 1) 32 c c' ∧ Duo W (w.heap.size + 1 + 1 + 1) 32 d d' ∧ Below w.heap.size w W
theorem Four.below {w W W1 : World} {a b c d a' b' c' d' : Value} (h : Four w W a b c d a' b' c' d') (hb : Below W.heap.size W W1) : Four w W1 a b c d a' b' c' d' := ⟨h.1.below hb, h.2.1.below hb, h.2.2.1.below hb, h.2.2.2.1.below hb, h.2.2.2.2.trans (hb.mono h.2.2.2.2.size)⟩
theorem Four.drew {w W : World} {a b c d a' b' c' d' : Value} (h : Four w W a b c d a' b' c' d') : Four w W.drew a b c d a' b' c' d' := ⟨h.1, h.2.1, h.2.2.1, h.2.2.2.1, h.2.2.2.2.drew⟩
theorem four_new (w : World) (a b c d a' b' c' d' : Value) : Four w ((((w.alloc (.cells #[a, a'] 32)).alloc (.cells #[b, b'] 32)).alloc (.cells #[c, c'] 32)).alloc (.cells #[d, d'] 32)) a b c d a' b' c' d' := by
  have h1 := Duo.new (w.alloc (.cells #[a, a'] 32)) 32 b b'
  have h2 := Duo.new ((w.alloc (.cells #[a, a'] 32)).alloc (.cells #[b, b'] 32)) 32 c c'
  have h3 := Duo.new (((w.alloc (.cells #[a, a'] 32)).alloc (.cells #[b, b'] 32)).alloc (.cells #[c, c'] 32)) 32 d d'
  simp only [World.size_alloc] at h1 h2 h3
  exact ⟨(((Duo.new w _ _ _).alloc _).alloc _).alloc _, (h1.alloc _).alloc _, h2.alloc _, h3, ((((Below.refl _ w).alloc (Nat.le_refl _) _).alloc (by simp) _).alloc (by simp; omega) _).alloc (by simp; omega) _⟩

/-- Behind 'a, b = Close(a), Close(b)'. -/
def Both (w : World) (ma mb : Nat) (Ra Rb : Option Mat) (wx : World) : Prop :=
  ∃ A ca B cb, ZRes wx w.heap.size ma Ra (zoneV ((ma : Int) - 1) A (rlen ma Ra) ca) ∧ ZRes wx w.heap.size mb Rb (zoneV ((mb : Int) - 1) B (rlen mb Rb) cb) ∧
    Four w wx (.int .i64 ((ma : Int) - 1)) (.int .i64 ((mb : Int) - 1)) (.int .i64 0) (.int .i64 0) (.slice A (rlen ma Ra) ca) (.slice B (rlen mb Rb) cb) (.slice none 0 0) (.slice none 0 0)
def RetTwo (w : World) (ma mb : Nat) (Ra Rb : Option Mat) (e : Ending) (w' : World) : Prop :=
  ∃ A ca B cb, e = .returned (.tuple #[zoneV ((ma : Int) - 1) A (rlen ma Ra) ca, zoneV ((mb : Int) - 1) B (rlen mb Rb) cb, .bool (decide (ma = mb))]) ∧
    ZRes w' w.heap.size ma Ra (zoneV ((ma : Int) - 1) A (rlen ma Ra) ca) ∧ ZRes w' w.heap.size mb Rb (zoneV ((mb : Int) - 1) B (rlen mb Rb) cb) ∧ Below w.heap.size w w'

theorem ZRes.setCell {W : World} {base m : Nat} {R : Option Mat} {v : Value} (h : ZRes W base m R v) {a : Addr} (hne : a.block < base) (u : Value) : ZRes (W.setCell a u) base m R v := by
  cases R with
  | none => exact h
  | some C =>
    obtain ⟨hc, g, cap, e, ho⟩ := h
    refine ⟨hc, g, cap, e, ho.kept (duo_grown_setCell W a u) (.inr ?_)⟩
    have := (ho.lt g rfl).1
    simp [Value.ownBlock]
    omega
theorem ZRes.setBox {W : World} {base m B o : Nat} {R : Option Mat} {v p q : Value} (h : ZRes W base m R v) (hd : Duo W B 32 p q) (u : Value) : ZRes (W.setCell ⟨B, o, none⟩ u) base m R v := by
  cases R with
  | none => exact h
  | some C =>
    obtain ⟨hc, g, cap, e, ho⟩ := h
    refine ⟨hc, g, cap, e, ho.kept (duo_grown_setCell W _ u) (.inr ?_)⟩
    exact (hd.not_row (by decide) ho).symm
theorem same_n (ma mb : Nat) : ((ma : Int) - 1 == (mb : Int) - 1) = decide (ma = mb) := by
  rw [Bool.eq_iff_iff, beq_iff_eq, decide_eq_true_eq]; omega
theorem Four.put {w W : World} {a b c d a' b' c' d' : Value} (h : Four w W a b c d a' b' c' d') (x y x' y' : Value) :
    Four w ((((W.setCell ⟨w.heap.size, 0, none⟩ x).setCell ⟨w.heap.size, 1, none⟩ x').setCell ⟨w.heap.size + 1, 0, none⟩ y).setCell ⟨w.heap.size + 1, 1, none⟩ y') x y c d x' y' c' d' := by
  obtain ⟨h1, h2, h3, h4, h5⟩ := h
  refine ⟨(((h1.set0 x).set1 x').other (by simp) _).other (by simp) _, ((((h2.other (by simp) _).other (by simp) _).set0 y).set1 y'), (((h3.other (by simp; omega) _).other (by simp; omega) _).other (by simp) _).other (by simp) _, (((h4.other (by simp; omega) _).other (by simp; omega) _).other (by simp; omega) _).other (by simp; omega) _, ?_⟩
  exact (((h5.setCell (p := ⟨w.heap.size, 0, none⟩) (by simp) _).setCell (p := ⟨w.heap.size, 1, none⟩) (by simp) _).setCell (p := ⟨w.heap.size + 1, 0, none⟩) (by simp) _).setCell (p := ⟨w.heap.size + 1, 1, none⟩) (by simp) _
theorem both_mk {w W w1 w2 : World} {ma mb : Nat} {Ra Rb : Option Mat} {a b a' b' : Value} {A B : Option Addr} {c1 c2 : Nat} (hF : Four w W a b (.int .i64 0) (.int .i64 0) a' b' (.slice none 0 0) (.slice none 0 0)) (hb1 : Below W.heap.size W w1) (hb2 : Below w1.heap.size w1 w2)
    (hz1 : ZRes w1 W.heap.size ma Ra (zoneV ((ma : Int) - 1) A (rlen ma Ra) c1)) (hz2 : ZRes w2 w1.heap.size mb Rb (zoneV ((mb : Int) - 1) B (rlen mb Rb) c2)) :
    Both w ma mb Ra Rb ((((w2.setCell ⟨w.heap.size, 0, none⟩ (.int .i64 ((ma : Int) - 1))).setCell ⟨w.heap.size, 1, none⟩ (.slice A (rlen ma Ra) c1)).setCell ⟨w.heap.size + 1, 0, none⟩ (.int .i64 ((mb : Int) - 1))).setCell ⟨w.heap.size + 1, 1, none⟩ (.slice B (rlen mb Rb) c2)) := by
  have hsz : w.heap.size + 1 + 1 + 1 < W.heap.size := hF.2.2.2.1.lt
  have hs1 := hb1.size
  have z1 := hz1.below hb2
  have q1 := (((z1.setCell (a := ⟨w.heap.size, 0, none⟩) (by simp; omega) (.int .i64 ((ma : Int) - 1))).setCell (a := ⟨w.heap.size, 1, none⟩) (by simp; omega) (.slice A (rlen ma Ra) c1)).setCell (a := ⟨w.heap.size + 1, 0, none⟩) (by simp; omega) (.int .i64 ((mb : Int) - 1))).setCell (a := ⟨w.heap.size + 1, 1, none⟩) (by simp; omega) (.slice B (rlen mb Rb) c2)
  have q2 := (((hz2.setCell (a := ⟨w.heap.size, 0, none⟩) (by simp; omega) (.int .i64 ((ma : Int) - 1))).setCell (a := ⟨w.heap.size, 1, none⟩) (by simp; omega) (.slice A (rlen ma Ra) c1)).setCell (a := ⟨w.heap.size + 1, 0, none⟩) (by simp; omega) (.int .i64 ((mb : Int) - 1))).setCell (a := ⟨w.heap.size + 1, 1, none⟩) (by simp; omega) (.slice B (rlen mb Rb) c2)
  exact ⟨A, c1, B, c2, q1.lower (by omega), q2.lower (by omega), ((hF.below hb1).below hb2).put _ _ _ _⟩

set_option maxRecDepth 100000 in
set_option maxHeartbeats 3200000 in
theorem two_of {w : World} {Na Nb : Int} {Aa Ab : Option Addr} {la lb ca cb ma mb : Nat} {Ra Rb : Option Mat}
    (K1 : ∀ W, Below w.heap.size w W → Calls Tryz.prog 34 #[zoneV Na Aa la ca] W (RetC W ma Ra)) (K2 : ∀ W, Below w.heap.size w W → Calls Tryz.prog 34 #[zoneV Nb Ab lb cb] W (RetC W mb Rb)) :
    Calls Tryz.prog 58 #[zoneV Na Aa la ca, zoneV Nb Ab lb cb] w (RetTwo w ma mb Ra Rb) := by
  have H1 := Lib.hid K1
  have H2 := Lib.hid K2
  have HF := Lib.hid (four_new w (.int .i64 Na) (.int .i64 Nb) (.int .i64 0) (.int .i64 0) (.slice Aa la ca) (.slice Ab lb cb) (.slice none 0 0) (.slice none 0 0)).drew
  have HB := Lib.hid HF.out.2.2.2.2
  clear K1 K2
  go_enter Tryz.func58, Tryz.ntmps58
  go_upto_region 1 with fail
  go_cut [] (fun wx => Both w ma mb Ra Rb wx)
  case first =>
    go_region_with (first
      | (go_at_call 34; ((with_reducible refine (H1.out _ HB.out).mono ?_); rintro e w1 ⟨A, c1, rfl, hz1, hb1⟩); have HB1 := Lib.hid (HB.out.trans (hb1.mono HB.out.size)); have x1 := HF.out.1.below hb1; have x2 := HF.out.2.1.below hb1; have y0 := x1.cell0; have y1 := x1.cell1; have y2 := x2.cell0; have y3 := x2.cell1; have y4 := x1.frozen0; have y5 := x1.frozen1; have y6 := x2.frozen0; have y7 := x2.frozen1)
      | (go_at_call 34; ((with_reducible refine (H2.out _ HB1.out).mono ?_); rintro e w2 ⟨B, c2, rfl, hz2, hb2⟩); have u1 := x1.below hb2; have u2 := x2.below hb2; have t0 := u1.cell0; have t1 := u1.cell1; have t2 := u2.cell0; have t3 := u2.cell1; have t4 := u1.frozen0; have t5 := u1.frozen1; have t6 := u2.frozen0; have t7 := u2.frozen1))
    all_goals go_wp2_with fail
    all_goals go_meet
    all_goals exact both_mk HF.out hb1 hb2 hz1 hz2
  case rest =>
    obtain ⟨A, c1, B, c2, hz1, hz2, hF⟩ := hcut
    have HZ1 := Lib.hid hz1
    have HZ2 := Lib.hid hz2
    have HF3 := Lib.hid hF
    clear hz1 hz2 HF HB
    have k0 := hF.1.cell0
    have k1 := hF.1.cell1
    have k2 := hF.2.1.cell0
    have k3 := hF.2.1.cell1
    have k4 := hF.2.2.1.cell0
    have k5 := hF.2.2.1.cell1
    have k6 := hF.2.2.1.frozen0
    have k7 := hF.2.2.1.frozen1
    have k8 := hF.2.2.2.1.cell0
    have k9 := hF.2.2.2.1.cell1
    have k10 := hF.2.2.2.1.frozen0
    have k11 := hF.2.2.2.1.frozen1
    clear hF
    go_wp2_with fail
    go_region
    all_goals go_wp2_with fail
    have hD4 := (((((HF3.out.2.2.1.set0 (.int .i64 ((ma : Int) - 1))).set1 (.slice A (rlen ma Ra) c1)).other (a := ⟨w.heap.size + 1 + 1 + 1, 0, none⟩) (by simp) (.int .i64 ((mb : Int) - 1))).other (a := ⟨w.heap.size + 1 + 1 + 1, 1, none⟩) (by simp) (.slice B (rlen mb Rb) c2)))
    have hD5 := ((((HF3.out.2.2.2.1.other (a := ⟨w.heap.size + 1 + 1, 0, none⟩) (by simp) (.int .i64 ((ma : Int) - 1))).other (a := ⟨w.heap.size + 1 + 1, 1, none⟩) (by simp) (.slice A (rlen ma Ra) c1)).set0 (.int .i64 ((mb : Int) - 1))).set1 (.slice B (rlen mb Rb) c2))
    have r0 := hD4.cell0
    have r1 := hD4.cell1
    have r2 := hD5.cell0
    have r3 := hD5.cell1
    have hE := (((HF3.out.2.2.2.2.setCell (p := ⟨w.heap.size + 1 + 1, 0, none⟩) (by simp; omega) (.int .i64 ((ma : Int) - 1))).setCell (p := ⟨w.heap.size + 1 + 1, 1, none⟩) (by simp; omega) (.slice A (rlen ma Ra) c1)).setCell (p := ⟨w.heap.size + 1 + 1 + 1, 0, none⟩) (by simp; omega) (.int .i64 ((mb : Int) - 1))).setCell (p := ⟨w.heap.size + 1 + 1 + 1, 1, none⟩) (by simp; omega) (.slice B (rlen mb Rb) c2)
    refine bodyPost_ret (v := .tuple #[zoneV ((ma : Int) - 1) A (rlen ma Ra) c1, zoneV ((mb : Int) - 1) B (rlen mb Rb) c2, .bool (decide (ma = mb))]) ?_ rfl ⟨A, c1, B, c2, rfl, ?_, ?_, ?_⟩
    · simp [results, Tryz.results58, go_sem, r0, r1, r2, r3]
      exact same_n ma mb
    · exact (((HZ1.out.setBox HF3.out.2.2.1 _).setBox (HF3.out.2.2.1.set0 _) _).setBox ((HF3.out.2.2.2.1.other (by simp) _).other (by simp) _) _).setBox (((HF3.out.2.2.2.1.other (by simp) _).other (by simp) _).set0 _) _
    · exact (((HZ2.out.setBox HF3.out.2.2.1 _).setBox (HF3.out.2.2.1.set0 _) _).setBox ((HF3.out.2.2.2.1.other (by simp) _).other (by simp) _) _).setBox (((HF3.out.2.2.2.1.other (by simp) _).other (by simp) _).set0 _) _
    · exact hE.drew
end Go.Proofs.YtlddelnbjihhgaaGreatDoor
