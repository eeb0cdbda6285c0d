/- The contracts of equal and Same: any two zones, as they are taken. -/
import Derived.Test.YtlkbapcienjdcaaDoorAlike
import Derived.Test.YtlkbapcienjdcaaDoorGSets
namespace Go.Proofs.YtlkbapcienjdcaaDoor
open Go.RowKit
attribute [local go_sem ↓] Go.wp_at_zero Go.wp_at_succ

theorem drewN_below (w : World) : ∀ q, Below w.heap.size w (w.drewN q)
  | 0 => Below.refl _ _
  | q + 1 => (drewN_below w q).drew
theorem Dob.drew {w W : World} {a b a' b' : Value} (h : Dob w W a b a' b') : Dob w W.drew a b a' b' := ⟨h.1, h.2.1, h.2.2.drew⟩
def sameO (ma mb : Nat) : Option Mat → Option Mat → Bool
  | none, none => decide (ma = mb)
  | some C, some D => decide (ma = mb) && (flatL ma C == flatL ma D)
  | _, _ => false
/-- The lists of two right ones. -/
theorem lists_same {W : World} {base m : Nat} {C D : Mat} {g1 g2 c1 c2 : Nat} (hm7 : m ≤ 7)
    (o1 : W.ownsRow base 3 1 (.slice (some ⟨g1, 0, none⟩) (m * m) c1) (m * m) ((flatL m C).map (Value.int .i64))) (o2 : W.ownsRow base 3 1 (.slice (some ⟨g2, 0, none⟩) (m * m) c2) (m * m) ((flatL m D).map (Value.int .i64))) :
    Calls Tryd.prog 56 #[.slice (some ⟨g1, 0, none⟩) (m * m) c1, .slice (some ⟨g2, 0, none⟩) (m * m) c2] W (RetB W (flatL m C == flatL m D)) := by
  have hmm : m * m ≤ 7 * 7 := Nat.mul_le_mul hm7 hm7
  have l1 := flat_len m C
  have l2 := flat_len m D
  have cell : ∀ {g c : Nat} {E : Mat}, W.ownsRow base 3 1 (.slice (some ⟨g, 0, none⟩) (m * m) c) (m * m) ((flatL m E).map (Value.int .i64)) → ∀ j, j < (flatL m E).length → W.cell? ⟨g, 0 + j, none⟩ = some (.int .i64 ((flatL m E).getD j 0)) := by
    intro g c E ho j hj
    rw [flat_len] at hj
    have hc := ho.cellAt j (by omega)
    rw [Nat.zero_add, hc, List.getElem?_map]
    have : j < (flatL m E).length := by rw [flat_len]; exact hj
    rw [List.getElem?_eq_getElem this, List.getD_eq_getElem?_getD, List.getElem?_eq_getElem this]
    rfl
  have h := Any.slices_Equal_int Tryd.lays111 g1 0 (m * m) c1 g2 0 (m * m) c2 (flatL m C) (flatL m D) W (by omega) (by omega) (by omega) (by omega) (cell o1) (cell o2)
  change Calls Tryd.prog 56 _ _ _ at h
  refine h.mono ?_
  rintro e w' ⟨rfl, q, rfl⟩
  refine ⟨?_, drewN_below W q⟩
  rw [List.take_of_length_le (by omega), List.take_of_length_le (by omega)]
theorem lists_none (a1 a2 : Option Addr) (c d : Nat) (W : World) : Calls Tryd.prog 56 #[.slice a1 0 c, .slice a2 0 d] W (RetB W true) := by
  have h := Any.slices_Equal_int_empty Tryd.lays111 a1 a2 c 0 d W (by omega)
  change Calls Tryd.prog 56 _ _ _ at h
  refine h.mono ?_
  rintro e w' ⟨rfl, rfl⟩
  exact ⟨rfl, Below.refl _ _⟩
theorem lists_other (a1 a2 : Option Addr) (n c m d : Nat) (W : World) (hnm : n ≠ m) : Calls Tryd.prog 56 #[.slice a1 n c, .slice a2 m d] W (RetB W false) := by
  have h := Any.slices_Equal_int_lens Tryd.lays111 a1 a2 n c m d W hnm
  change Calls Tryd.prog 56 _ _ _ at h
  refine h.mono ?_
  rintro e w' ⟨rfl, rfl⟩
  exact ⟨rfl, Below.refl _ _⟩

set_option maxRecDepth 100000 in
set_option maxHeartbeats 1600000 in
theorem equal_if {w : World} {Na Nb : Int} {Aa Ab : Option Addr} {la lb ca cb : Nat} {r : Bool} (hr : Na = Nb)
    (K : ∀ W, Below w.heap.size w W → Calls Tryd.prog 56 #[.slice Aa la ca, .slice Ab lb cb] W (RetB W r)) :
    Calls Tryd.prog 31 #[zoneV Na Aa la ca, zoneV Nb Ab lb cb] w (RetB w r) := by
  subst hr
  have HT := Lib.hid (dob_new w (.int .i64 Na) (.int .i64 Na) (.slice Aa la ca) (.slice Ab lb cb))
  have HK := Lib.hid K
  clear K
  go_enter Tryd.func31, Tryd.ntmps31
  go_wp2_with fail
  refine (HK.out _ HT.out.2.2).mono ?_
  rintro e w1 ⟨rfl, hb1⟩
  have HB := Lib.hid (HT.out.2.2.trans (hb1.mono HT.out.2.2.size))
  clear hb1
  go_wp2_with fail
  go_ret
  exact ⟨rfl, HB.out⟩
set_option maxRecDepth 100000 in
set_option maxHeartbeats 1600000 in
theorem equal_else {w : World} {Na Nb : Int} {Aa Ab : Option Addr} {la lb ca cb : Nat} (hr : Na ≠ Nb) :
    Calls Tryd.prog 31 #[zoneV Na Aa la ca, zoneV Nb Ab lb cb] w (RetB w false) := by
  have HT := Lib.hid (dob_new w (.int .i64 Na) (.int .i64 Nb) (.slice Aa la ca) (.slice Ab lb cb))
  have n1 : (Na == Nb) = false := by simpa using hr
  have n2 : decide (Na = Nb) = false := decide_eq_false hr
  clear hr
  go_enter Tryd.func31, Tryd.ntmps31
  go_wp2_with fail
  go_ret
  exact ⟨rfl, HT.out.2.2⟩
/-- equal of two right ones. -/
theorem equal_any {w : World} {Aa Ab : Option Addr} {ca cb ma mb base : Nat} {Ra Rb : Option Mat} (h0 : 0 < ma) (h7 : ma ≤ 7)
    (ha : ZRes w base ma Ra (zoneV ((ma : Int) - 1) Aa (rlen ma Ra) ca)) (hb : ZRes w base mb Rb (zoneV ((mb : Int) - 1) Ab (rlen mb Rb) cb)) :
    Calls Tryd.prog 31 #[zoneV ((ma : Int) - 1) Aa (rlen ma Ra) ca, zoneV ((mb : Int) - 1) Ab (rlen mb Rb) cb] w (RetB w (sameO ma mb Ra Rb)) := by
  by_cases hm : ma = mb
  · subst hm
    have hmm := Nat.mul_pos h0 h0
    refine equal_if rfl (fun W hW => ?_)
    have ha' := ha.below hW
    have hb' := hb.below hW
    cases Ra with
    | none =>
      cases Rb with
      | none =>
        have e : sameO ma ma none none = true := by unfold sameO; simp
        rw [e]; exact lists_none _ _ _ _ W
      | some D =>
        have e : sameO ma ma none (some D) = false := rfl
        rw [e]; exact lists_other _ _ _ _ _ _ W (show 0 ≠ ma * ma by omega)
    | some C =>
      cases Rb with
      | none =>
        have e : sameO ma ma (some C) none = false := rfl
        rw [e]; exact lists_other _ _ _ _ _ _ W (show ma * ma ≠ 0 by omega)
      | some D =>
        have e : sameO ma ma (some C) (some D) = (flatL ma C == flatL ma D) := by unfold sameO; simp
        obtain ⟨g1, rfl, -, o1⟩ := zres_some ha'
        obtain ⟨g2, rfl, -, o2⟩ := zres_some hb'
        rw [e]; exact lists_same h7 o1 o2
  · have e : sameO ma mb Ra Rb = false := by unfold sameO; cases Ra <;> cases Rb <;> simp [hm]
    rw [e]
    exact equal_else (by omega)

set_option maxRecDepth 100000 in
set_option maxHeartbeats 1600000 in
theorem same_any {w : World} {Na Nb : Int} {Aa Ab : Option Addr} {la lb ca cb ma mb : Nat} {Ra Rb : Option Mat} (h0 : 0 < ma) (h7 : ma ≤ 7)
    (K1 : ∀ W, Below w.heap.size w W → Calls Tryd.prog 32 #[zoneV Na Aa la ca] W (RetC W ma Ra)) (K2 : ∀ W, Below w.heap.size w W → Calls Tryd.prog 32 #[zoneV Nb Ab lb cb] W (RetC W mb Rb)) :
    Calls Tryd.prog 14 #[zoneV Na Aa la ca, zoneV Nb Ab lb cb] w (RetB w (sameO ma mb Ra Rb)) := by
  have HF := Lib.hid (dob_new w (.int .i64 Na) (.int .i64 Nb) (.slice Aa la ca) (.slice Ab lb cb)).drew
  have HB := Lib.hid HF.out.2.2
  have H1 := Lib.hid K1
  have H2 := Lib.hid K2
  clear K1 K2
  go_enter Tryd.func14, Tryd.ntmps14
  go_wp2_with fail
  go_region_with (first
    | (go_at_call 32; ((with_reducible refine (H1.out _ HB.out).mono ?_); rintro e w1 ⟨A, c1, rfl, hz1, hb1⟩); have HB1 := Lib.hid (HB.out.trans (hb1.mono HB.out.size)); have x1 := HF.out.1.below hb1; have x2 := HF.out.2.1.below hb1; have y0 := x1.cell0; have y1 := x1.cell1; have y2 := x2.cell0; have y3 := x2.cell1)
    | (go_at_call 32; ((with_reducible refine (H2.out _ HB1.out).mono ?_); rintro e w2 ⟨B, c2, rfl, hz2, hb2⟩); have HB2 := Lib.hid (HB1.out.trans (hb2.mono HB1.out.size)); have u1 := x1.below hb2; have u2 := x2.below hb2; have t0 := u1.cell0; have t1 := u1.cell1; have t2 := u2.cell0; have t3 := u2.cell1; have z1 := hz1.below hb2; have z2 := hz2.lower hb1.size)
    | (go_at_call 31; ((with_reducible refine (equal_any h0 h7 z1 z2).mono ?_); rintro e w3 ⟨rfl, hb3⟩)))
  all_goals go_wp2_with fail
  all_goals go_ret
  all_goals exact ⟨rfl, HB2.out.trans (hb3.mono HB2.out.size)⟩
end Go.Proofs.YtlkbapcienjdcaaDoor
