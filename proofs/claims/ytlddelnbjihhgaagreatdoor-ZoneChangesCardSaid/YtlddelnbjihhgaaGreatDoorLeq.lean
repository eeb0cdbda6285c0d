/- The contract of Leq: any two zones. -/
import Derived.Test.YtlddelnbjihhgaaGreatDoorWithin
import Derived.Test.YtlddelnbjihhgaaGreatDoorSets
namespace Go.Proofs.YtlddelnbjihhgaaGreatDoor
open Go.RowKit
attribute [local go_sem ↓] Go.wp_at_zero Go.wp_at_succ

def leqO (ma mb : Nat) : Option Mat → Option Mat → Bool
  | none, _ => decide (ma = mb)
  | some _, none => false
  | some C, some D => decide (ma = mb) && leB ma C D
/-- Two boxes of zones. -/
def Dob (w W : World) (a b a' b' : Value) : Prop := Duo W w.heap.size 32 a a' ∧ Duo W (w.heap.size + 1) 32 b b' ∧ Below w.heap.size w W
theorem Dob.below {w W W1 : World} {a b a' b' : Value} (h : Dob w W a b a' b') (hb : Below W.heap.size W W1) : Dob w W1 a b a' b' := ⟨h.1.below hb, h.2.1.below hb, h.2.2.trans (hb.mono h.2.2.size)⟩
theorem dob_new (w : World) (a b a' b' : Value) : Dob w ((w.alloc (.cells #[a, a'] 32)).alloc (.cells #[b, b'] 32)) a b a' b' := by
  have h1 := Duo.new (w.alloc (.cells #[a, a'] 32)) 32 b b'
  simp only [World.size_alloc] at h1
  exact ⟨(Duo.new w _ _ _).alloc _, h1, ((Below.refl _ w).alloc (Nat.le_refl _) _).alloc (by simp) _⟩
theorem Dob.put {w W : World} {a b a' b' : Value} (h : Dob w W a b a' b') (x y x' y' : Value) :
    Dob w ((((W.setCell ⟨w.heap.size, 0, none⟩ x).setCell ⟨w.heap.size, 1, none⟩ x').setCell ⟨w.heap.size + 1, 0, none⟩ y).setCell ⟨w.heap.size + 1, 1, none⟩ y') x y x' y' := by
  obtain ⟨h1, h2, h5⟩ := h
  refine ⟨(((h1.set0 x).set1 x').other (by simp) _).other (by simp) _, ((((h2.other (by simp) _).other (by simp) _).set0 y).set1 y'), ?_⟩
  exact (((h5.setCell (p := ⟨w.heap.size, 0, none⟩) (by simp) _).setCell (p := ⟨w.heap.size, 1, none⟩) (by simp) _).setCell (p := ⟨w.heap.size + 1, 0, none⟩) (by simp) _).setCell (p := ⟨w.heap.size + 1, 1, none⟩) (by simp) _
def Mid2 (w : World) (ma mb : Nat) (Ra Rb : Option Mat) (t : Value) (wx : World) : Prop :=
  ∃ A ca B cb, t = .bool (!decide (ma = mb)) ∧ ZRes wx w.heap.size ma Ra (zoneV ((ma : Int) - 1) A (rlen ma Ra) ca) ∧ ZRes wx w.heap.size mb Rb (zoneV ((mb : Int) - 1) B (rlen mb Rb) cb) ∧
    Dob w wx (.int .i64 ((ma : Int) - 1)) (.int .i64 ((mb : Int) - 1)) (.slice A (rlen ma Ra) ca) (.slice B (rlen mb Rb) cb)
theorem mid2_mk {w W w1 : World} {ma mb : Nat} {Ra Rb : Option Mat} {a b a' b' : Value} {A B : Option Addr} {c1 c2 : Nat} (hF : Dob w W a b a' b') (hb1 : Below W.heap.size W w1)
    (hz1 : ZRes w1 W.heap.size ma Ra (zoneV ((ma : Int) - 1) A (rlen ma Ra) c1)) (hz2 : ZRes w1 W.heap.size mb Rb (zoneV ((mb : Int) - 1) B (rlen mb Rb) c2)) :
    Mid2 w ma mb Ra Rb (.bool (!decide (ma = mb))) ((((w1.setCell ⟨w.heap.size, 0, none⟩ (.int .i64 ((ma : Int) - 1))).setCell ⟨w.heap.size, 1, none⟩ (.slice A (rlen ma Ra) c1)).setCell ⟨w.heap.size + 1, 0, none⟩ (.int .i64 ((mb : Int) - 1))).setCell ⟨w.heap.size + 1, 1, none⟩ (.slice B (rlen mb Rb) c2)) := by
  have hsz : w.heap.size + 1 < W.heap.size := hF.2.1.lt
  have q1 := (((hz1.setCell (a := ⟨w.heap.size, 0, none⟩) (by simp; omega) (.int .i64 ((ma : Int) - 1))).setCell (a := ⟨w.heap.size, 1, none⟩) (by simp; omega) (.slice A (rlen ma Ra) c1)).setCell (a := ⟨w.heap.size + 1, 0, none⟩) (by simp; omega) (.int .i64 ((mb : Int) - 1))).setCell (a := ⟨w.heap.size + 1, 1, none⟩) (by simp; omega) (.slice B (rlen mb Rb) c2)
  have q2 := (((hz2.setCell (a := ⟨w.heap.size, 0, none⟩) (by simp; omega) (.int .i64 ((ma : Int) - 1))).setCell (a := ⟨w.heap.size, 1, none⟩) (by simp; omega) (.slice A (rlen ma Ra) c1)).setCell (a := ⟨w.heap.size + 1, 0, none⟩) (by simp; omega) (.int .i64 ((mb : Int) - 1))).setCell (a := ⟨w.heap.size + 1, 1, none⟩) (by simp; omega) (.slice B (rlen mb Rb) c2)
  exact ⟨A, c1, B, c2, rfl, q1.lower (by omega), q2.lower (by omega), (hF.below hb1).put _ _ _ _⟩

set_option maxRecDepth 100000 in
set_option maxHeartbeats 3200000 in
theorem leq_off {w : World} {Na Nb : Int} {Aa Ab : Option Addr} {la lb ca cb ma mb : Nat} {Ra Rb : Option Mat} (hm : ma ≠ mb)
    (K : ∀ W, Below w.heap.size w W → Calls Tryz.prog 58 #[zoneV Na Aa la ca, zoneV Nb Ab lb cb] W (RetTwo W ma mb Ra Rb)) :
    Calls Tryz.prog 26 #[zoneV Na Aa la ca, zoneV Nb Ab lb cb] w (RetB w false) := by
  have HT := Lib.hid (dob_new w (.int .i64 Na) (.int .i64 Nb) (.slice Aa la ca) (.slice Ab lb cb))
  have HK := Lib.hid (K _ HT.out.2.2)
  clear K
  have HM0 := Lib.hid hm
  clear hm
  go_enter Tryz.func26, Tryz.ntmps26
  go_upto_region 2 with (go_at_call 58; refine HK.out.mono ?_; rintro e w1 ⟨A, c1, B, c2, rfl, hz1, hz2, hb1⟩; have hF1 := HT.out.below hb1; have y0 := hF1.1.cell0; have y1 := hF1.1.cell1; have y2 := hF1.2.1.cell0; have y3 := hF1.2.1.cell1; have y4 := hF1.1.frozen0; have y5 := hF1.1.frozen1; have y6 := hF1.2.1.frozen0; have y7 := hF1.2.1.frozen1)
  go_cut [13] (fun t wx => Mid2 w ma mb Ra Rb t wx)
  case first =>
    have hM := mid2_mk HT.out hb1 hz1 hz2
    have HM := Lib.hid hM
    clear hM hz1 hz2 hb1 hF1
    go_wp2_with fail
    go_meet
    exact HM.out
  case rest =>
    clear y0 y1 y2 y3 y4 y5 y6 y7 hF1 hz1 hz2 hb1 HK
    obtain ⟨A, c1, B, c2, ht, hz1, hz2, hF⟩ := hcut
    rw [show (!decide (ma = mb)) = true by rw [decide_eq_false HM0.out]; rfl] at ht
    subst ht
    have HZ1 := Lib.hid hz1
    have HZ2 := Lib.hid hz2
    have HF := Lib.hid hF
    clear hz1 hz2 hF HT
    have k0 := HF.out.1.cell0
    have k1 := HF.out.1.cell1
    have k2 := HF.out.2.1.cell0
    have k3 := HF.out.2.1.cell1
    go_wp2_with fail
    go_ret
    exact ⟨rfl, HF.out.2.2⟩

set_option maxRecDepth 100000 in
set_option maxHeartbeats 3200000 in
theorem leq_na {w : World} {Na Nb : Int} {Aa Ab : Option Addr} {la lb ca cb m : Nat} {Rb : Option Mat}
    (K : ∀ W, Below w.heap.size w W → Calls Tryz.prog 58 #[zoneV Na Aa la ca, zoneV Nb Ab lb cb] W (RetTwo W m m none Rb)) :
    Calls Tryz.prog 26 #[zoneV Na Aa la ca, zoneV Nb Ab lb cb] w (RetB w true) := by
  have HT := Lib.hid (dob_new w (.int .i64 Na) (.int .i64 Nb) (.slice Aa la ca) (.slice Ab lb cb))
  have HK := Lib.hid (K _ HT.out.2.2)
  clear K
  go_enter Tryz.func26, Tryz.ntmps26
  go_upto_region 2 with (go_at_call 58; refine HK.out.mono ?_; rintro e w1 ⟨A, c1, B, c2, rfl, hz1, hz2, hb1⟩; have hF1 := HT.out.below hb1; have y0 := hF1.1.cell0; have y1 := hF1.1.cell1; have y2 := hF1.2.1.cell0; have y3 := hF1.2.1.cell1; have y4 := hF1.1.frozen0; have y5 := hF1.1.frozen1; have y6 := hF1.2.1.frozen0; have y7 := hF1.2.1.frozen1)
  go_cut [13] (fun t wx => Mid2 w m m none Rb t wx)
  case first =>
    have hM := mid2_mk HT.out hb1 hz1 hz2
    rw [show (!decide (m = m)) = false by simp] at hM
    have HM := Lib.hid hM
    clear hM hz1 hz2 hb1 hF1
    go_wp2_with fail
    go_meet
    exact HM.out
  case rest =>
    clear y0 y1 y2 y3 y4 y5 y6 y7 hF1 hz1 hz2 hb1 HK
    obtain ⟨A, c1, B, c2, ht, hz1, hz2, hF⟩ := hcut
    rw [show (!decide (m = m)) = false by simp] at ht
    subst ht
    have HZ1 := Lib.hid hz1
    have HZ2 := Lib.hid hz2
    have HF := Lib.hid hF
    clear hz1 hz2 hF HT
    have k0 := HF.out.1.cell0
    have k1 := HF.out.1.cell1
    have k2 := HF.out.2.1.cell0
    have k3 := HF.out.2.1.cell1
    have e0 : rlen m (none : Option Mat) = 0 := rfl
    go_wp2_with fail
    refine (none_any _ _ _ _ _).mono ?_
    rintro e w3 ⟨rfl, hb3⟩
    have HF3 := Lib.hid (HF.out.below hb3)
    have HZ3 := Lib.hid (HZ1.out.below hb3)
    have HZ4 := Lib.hid (HZ2.out.below hb3)
    clear hb3 k0 k1 k2 k3
    have k0 := HF3.out.1.cell0
    have k1 := HF3.out.1.cell1
    have k2 := HF3.out.2.1.cell0
    have k3 := HF3.out.2.1.cell1
    go_wp2_with fail
    go_ret
    exact ⟨rfl, HF3.out.2.2⟩

set_option maxRecDepth 100000 in
set_option maxHeartbeats 3200000 in
theorem leq_nb {w : World} {Na Nb : Int} {Aa Ab : Option Addr} {la lb ca cb m : Nat} {C : Mat} (h0 : 0 < m)
    (K : ∀ W, Below w.heap.size w W → Calls Tryz.prog 58 #[zoneV Na Aa la ca, zoneV Nb Ab lb cb] W (RetTwo W m m (some C) none)) :
    Calls Tryz.prog 26 #[zoneV Na Aa la ca, zoneV Nb Ab lb cb] w (RetB w false) := by
  have HT := Lib.hid (dob_new w (.int .i64 Na) (.int .i64 Nb) (.slice Aa la ca) (.slice Ab lb cb))
  have HK := Lib.hid (K _ HT.out.2.2)
  clear K
  go_enter Tryz.func26, Tryz.ntmps26
  go_upto_region 2 with (go_at_call 58; refine HK.out.mono ?_; rintro e w1 ⟨A, c1, B, c2, rfl, hz1, hz2, hb1⟩; have hF1 := HT.out.below hb1; have y0 := hF1.1.cell0; have y1 := hF1.1.cell1; have y2 := hF1.2.1.cell0; have y3 := hF1.2.1.cell1; have y4 := hF1.1.frozen0; have y5 := hF1.1.frozen1; have y6 := hF1.2.1.frozen0; have y7 := hF1.2.1.frozen1)
  go_cut [13] (fun t wx => Mid2 w m m (some C) none t wx)
  case first =>
    have hM := mid2_mk HT.out hb1 hz1 hz2
    rw [show (!decide (m = m)) = false by simp] at hM
    have HM := Lib.hid hM
    clear hM hz1 hz2 hb1 hF1
    go_wp2_with fail
    go_meet
    exact HM.out
  case rest =>
    clear y0 y1 y2 y3 y4 y5 y6 y7 hF1 hz1 hz2 hb1 HK
    obtain ⟨A, c1, B, c2, ht, hz1, hz2, hF⟩ := hcut
    rw [show (!decide (m = m)) = false by simp] at ht
    subst ht
    have HZ1 := Lib.hid hz1
    have HZ2 := Lib.hid hz2
    have HF := Lib.hid hF
    clear hz1 hz2 hF HT
    have k0 := HF.out.1.cell0
    have k1 := HF.out.1.cell1
    have k2 := HF.out.2.1.cell0
    have k3 := HF.out.2.1.cell1
    have e0 : rlen m (none : Option Mat) = 0 := rfl
    have e1 : rlen m (some C) = m * m := rfl
    have e2 := sq_pos h0
    go_wp2_with fail
    refine (none_any _ _ _ _ _).mono ?_
    rintro e w3 ⟨rfl, hb3⟩
    have HF3 := Lib.hid (HF.out.below hb3)
    have HZ3 := Lib.hid (HZ1.out.below hb3)
    have HZ4 := Lib.hid (HZ2.out.below hb3)
    clear hb3 k0 k1 k2 k3
    have k0 := HF3.out.1.cell0
    have k1 := HF3.out.1.cell1
    have k2 := HF3.out.2.1.cell0
    have k3 := HF3.out.2.1.cell1
    go_wp2_with fail
    refine (none_any _ _ _ _ _).mono ?_
    rintro e w4 ⟨rfl, hb4⟩
    have HF4 := Lib.hid (HF3.out.below hb4)
    have HZ5 := Lib.hid (HZ3.out.below hb4)
    have HZ6 := Lib.hid (HZ4.out.below hb4)
    clear hb4 k0 k1 k2 k3
    have k0 := HF4.out.1.cell0
    have k1 := HF4.out.1.cell1
    have k2 := HF4.out.2.1.cell0
    have k3 := HF4.out.2.1.cell1
    go_wp2_with fail
    go_ret
    exact ⟨rfl, HF4.out.2.2⟩

set_option maxRecDepth 100000 in
set_option maxHeartbeats 3200000 in
theorem leq_pts {w : World} {Na Nb : Int} {Aa Ab : Option Addr} {la lb ca cb m : Nat} {C D : Mat} (h0 : 0 < m) (h7 : m ≤ 7)
    (K : ∀ W, Below w.heap.size w W → Calls Tryz.prog 58 #[zoneV Na Aa la ca, zoneV Nb Ab lb cb] W (RetTwo W m m (some C) (some D))) :
    Calls Tryz.prog 26 #[zoneV Na Aa la ca, zoneV Nb Ab lb cb] w (RetB w (leB m C D)) := by
  have HT := Lib.hid (dob_new w (.int .i64 Na) (.int .i64 Nb) (.slice Aa la ca) (.slice Ab lb cb))
  have HK := Lib.hid (K _ HT.out.2.2)
  clear K
  go_enter Tryz.func26, Tryz.ntmps26
  go_upto_region 2 with (go_at_call 58; refine HK.out.mono ?_; rintro e w1 ⟨A, c1, B, c2, rfl, hz1, hz2, hb1⟩; have hF1 := HT.out.below hb1; have y0 := hF1.1.cell0; have y1 := hF1.1.cell1; have y2 := hF1.2.1.cell0; have y3 := hF1.2.1.cell1; have y4 := hF1.1.frozen0; have y5 := hF1.1.frozen1; have y6 := hF1.2.1.frozen0; have y7 := hF1.2.1.frozen1)
  go_cut [13] (fun t wx => Mid2 w m m (some C) (some D) t wx)
  case first =>
    have hM := mid2_mk HT.out hb1 hz1 hz2
    rw [show (!decide (m = m)) = false by simp] at hM
    have HM := Lib.hid hM
    clear hM hz1 hz2 hb1 hF1
    go_wp2_with fail
    go_meet
    exact HM.out
  case rest =>
    clear y0 y1 y2 y3 y4 y5 y6 y7 hF1 hz1 hz2 hb1 HK
    obtain ⟨A, c1, B, c2, ht, hz1, hz2, hF⟩ := hcut
    rw [show (!decide (m = m)) = false by simp] at ht
    subst ht
    have HZ1 := Lib.hid hz1
    have HZ2 := Lib.hid hz2
    have HF := Lib.hid hF
    clear hz1 hz2 hF HT
    have k0 := HF.out.1.cell0
    have k1 := HF.out.1.cell1
    have k2 := HF.out.2.1.cell0
    have k3 := HF.out.2.1.cell1
    have e1 : rlen m (some C) = m * m := rfl
    have e2 := sq_pos h0
    have e4 : rlen m (some D) = m * m := rfl
    go_wp2_with fail
    refine (none_any _ _ _ _ _).mono ?_
    rintro e w3 ⟨rfl, hb3⟩
    have HF3 := Lib.hid (HF.out.below hb3)
    have HZ3 := Lib.hid (HZ1.out.below hb3)
    have HZ4 := Lib.hid (HZ2.out.below hb3)
    clear hb3 k0 k1 k2 k3
    have k0 := HF3.out.1.cell0
    have k1 := HF3.out.1.cell1
    have k2 := HF3.out.2.1.cell0
    have k3 := HF3.out.2.1.cell1
    go_wp2_with fail
    refine (none_any _ _ _ _ _).mono ?_
    rintro e w4 ⟨rfl, hb4⟩
    have HF4 := Lib.hid (HF3.out.below hb4)
    have HZ5 := Lib.hid (HZ3.out.below hb4)
    have HZ6 := Lib.hid (HZ4.out.below hb4)
    clear hb4 k0 k1 k2 k3
    have k0 := HF4.out.1.cell0
    have k1 := HF4.out.1.cell1
    have k2 := HF4.out.2.1.cell0
    have k3 := HF4.out.2.1.cell1
    obtain ⟨g1, rfl, hC, o1⟩ := zres_some HZ5.out
    obtain ⟨g2, rfl, hD, o2⟩ := zres_some HZ6.out
    have O1 := Lib.hid o1
    have O2 := Lib.hid o2
    clear o1 o2 hC hD HZ1 HZ2 HZ3 HZ4 HZ5 HZ6 HF HF3
    go_wp2_with fail
    refine (within_any m h7 h0 C D g1 g2 c1 c2 _ _ O1.out O2.out).mono ?_
    rintro e w5 ⟨rfl, hb5⟩
    have HB5 := Lib.hid (HF4.out.2.2.trans (hb5.mono HF4.out.2.2.size))
    clear hb5 k0 k1 k2 k3
    go_wp2_with fail
    go_ret
    exact ⟨rfl, HB5.out⟩

theorem leq_any {w : World} {Na Nb : Int} {Aa Ab : Option Addr} {la lb ca cb ma mb : Nat} {Ra Rb : Option Mat} (h0 : 0 < ma) (h7 : ma ≤ 7)
    (K : ∀ W, Below w.heap.size w W → Calls Tryz.prog 58 #[zoneV Na Aa la ca, zoneV Nb Ab lb cb] W (RetTwo W ma mb Ra Rb)) :
    Calls Tryz.prog 26 #[zoneV Na Aa la ca, zoneV Nb Ab lb cb] w (RetB w (leqO ma mb Ra Rb)) := by
  by_cases hm : ma = mb
  · subst hm
    cases Ra with
    | none => have e : leqO ma ma none Rb = true := by unfold leqO; simp
              rw [e]; exact leq_na K
    | some C =>
      cases Rb with
      | none => exact leq_nb h0 K
      | some D => have e : leqO ma ma (some C) (some D) = leB ma C D := by unfold leqO; simp
                  rw [e]; exact leq_pts h0 h7 K
  · have e : leqO ma mb Ra Rb = false := by unfold leqO; cases Ra <;> cases Rb <;> simp [hm]
    rw [e]
    exact leq_off hm K
end Go.Proofs.YtlddelnbjihhgaaGreatDoor
