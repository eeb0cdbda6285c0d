/- TreePrints: the walk. -/
import Derived.Test.YtklfcjimgnnlfaaDoorTrRPr
import Derived.Test.YtklfcjimgnnlfaaDoorTrProg
import Derived.Test.YtklfcjimgnnlfaaDoorTrSized
import Derived.Test.YtklfcjimgnnlfaaDoorTrAlive
import Derived.Test.YtklfcjimgnnlfaaDoorTrArgsP
import Derived.Test.YtklfcjimgnnlfaaDoorTrBoundP
import Derived.Deep.RegionHeld3
import Derived.Deep.DeepCutAuto
import Derived.Deep.CutBlock
namespace Go.Proofs.YtklfcjimgnnlfaaDoor
open Go.RowKit
set_option maxRecDepth 100000 in
set_option maxHeartbeats 25600000 in
theorem prints_walk (n : Nat) (p : Pg) (vE vV vP vM : Value) (W : World) (ht : Tabs W) (h1 : PgR (fun b => b < W.heap.size) n W p vE vV vP vM) (hc : costP p ≤ 1048576) :
    Calls Tryd.prog 3 #[pgV vE vV vP vM] W fun e w' => e = .returned (.bool true) ∧ Below W.heap.size W w' := by
  have HLen := Lib.hid (print_len h1 hc)
  have HDeep := Lib.hid (print_deep hc)
  obtain ⟨E1, e1, rfl, he1, hE1⟩ := h1.en.slice
  obtain ⟨V1, v1, rfl, hv1, hV1⟩ := h1.va.slice
  obtain ⟨R1, z1, rfl, hz1, hR1⟩ := h1.pr.slice
  obtain ⟨M1, d1, rfl, -, -⟩ := h1.mn.slice
  have HPg := Lib.hid h1
  have kE1 : p.enums.length ≤ 35184372088832 := by omega
  have kV1 : p.vars.length ≤ 35184372088832 := by omega
  have kR1 : p.procs.length ≤ 35184372088832 := by omega
  clear hE1 hV1 hR1 h1 hc
  obtain ⟨n1, hn1⟩ : ∃ m, p.enums.length = m := ⟨_, rfl⟩
  obtain ⟨n2, hn2⟩ : ∃ m, p.vars.length = m := ⟨_, rfl⟩
  obtain ⟨n3, hn3⟩ : ∃ m, p.procs.length = m := ⟨_, rfl⟩
  have HN1 := Lib.hid hn1
  have HN2 := Lib.hid hn2
  have HN3 := Lib.hid hn3
  rw [hn1] at he1 kE1 HPg ⊢
  rw [hn2] at hv1 kV1 HPg ⊢
  rw [hn3] at hz1 kR1 HPg ⊢
  clear hn1 hn2 hn3
  obtain ⟨W0, hW0⟩ : ∃ W0, W0 = W.alloc (.cells #[.slice E1 n1 e1, .slice V1 n2 v1, .slice R1 n3 z1, .slice M1 p.main.length d1] 27) := ⟨_, rfl⟩
  have B0 : Hid (Below W.heap.size W W0) := Lib.hid (by rw [hW0]; exact (Below.refl _ _).alloc (Nat.le_refl _) _)
  have HKa : Hid (Blk W0 W.heap.size 27 #[.slice E1 n1 e1, .slice V1 n2 v1, .slice R1 n3 z1, .slice M1 p.main.length d1]) := Lib.hid (by rw [hW0]; exact Blk.new W _ _)
  have HW0 := Lib.hid hW0
  clear hW0
  have HSB : Hid (∀ w', Below W0.heap.size W0 w' → w'.cell? ⟨W.heap.size, 0, none⟩ = some (.slice E1 n1 e1) ∧ w'.cell? ⟨W.heap.size, 1, none⟩ = some (.slice V1 n2 v1) ∧ w'.cell? ⟨W.heap.size, 2, none⟩ = some (.slice R1 n3 z1) ∧ w'.cell? ⟨W.heap.size, 3, none⟩ = some (.slice M1 p.main.length d1)) := Lib.hid fun w' hb => ⟨(HKa.out.below hb HKa.out.lt).cell 0, (HKa.out.below hb HKa.out.lt).cell 1, (HKa.out.below hb HKa.out.lt).cell 2, (HKa.out.below hb HKa.out.lt).cell 3⟩
  have HA : Hid (∀ w', Below W0.heap.size W0 w' → Calls Tryd.prog 7 #[] w' (fun e w2 => e = .returned (.bool true) ∧ Below w'.heap.size w' w2)) := Lib.hid fun w' hb => alive_any w' (ht.stays (thru B0.out hb))
  obtain ⟨s1, hs1⟩ : ∃ s, s = W64 (szPg p) := ⟨_, rfl⟩
  have HS1 : Hid (∀ w', Below W0.heap.size W0 w' → Calls Tryd.prog 6 #[pgV (.slice E1 n1 e1) (.slice V1 n2 v1) (.slice R1 n3 z1) (.slice M1 p.main.length d1)] w' (fun e w2 => e = .returned (.int .i64 s1) ∧ Below w'.heap.size w' w2)) := Lib.hid fun w' hb => by
    rw [hs1]
    exact rSized_any n p _ _ _ _ _ w' (HPg.out.below (thru B0.out hb) (fun b h => h)) (lo_up (fun b h => h) (thru B0.out hb).size)
  have D0 : Hid (Below W0.heap.size W0 W0) := Lib.hid (Below.refl _ _)
  obtain ⟨x0, x1, x2, x3⟩ := HSB.out _ D0.out
  have HT := Lib.hid ht
  have HS1e := Lib.hid hs1
  clear hs1 ht
  by_cases hg1 : (300 : Int) < s1
  · go_enter Tryd.func3, Tryd.ntmps3
    go_upto_region 1 with fail
    rw [← HW0.out]
    go_wp2_with (first
      | (go_at_call 6; have HX := HS1.out _ D0.out; (with_reducible refine HX.mono ?_); clear HX; rintro e w_D1 ⟨rfl, hb⟩; have D1 := Lib.hid (thru D0.out hb); obtain ⟨x10, x11, x12, x13⟩ := HSB.out _ D1.out; clear hb)
      | (go_at_call 7; have HX := HA.out _ D1.out; (with_reducible refine HX.mono ?_); clear HX; rintro e w_D2 ⟨rfl, hb⟩; have D2 := Lib.hid (thru D1.out hb); clear hb))
    go_ret
    exact ⟨rfl, thru B0.out D2.out⟩
  · by_cases hg2 : (20 : Int) < (n1 : Int)
    · go_enter Tryd.func3, Tryd.ntmps3
      go_upto_region 1 with fail
      rw [← HW0.out]
      go_wp2_with (first
        | (go_at_call 6; have HX := HS1.out _ D0.out; (with_reducible refine HX.mono ?_); clear HX; rintro e w_D1 ⟨rfl, hb⟩; have D1 := Lib.hid (thru D0.out hb); obtain ⟨x10, x11, x12, x13⟩ := HSB.out _ D1.out; clear hb)
        | (go_at_call 7; have HX := HA.out _ D1.out; (with_reducible refine HX.mono ?_); clear HX; rintro e w_D2 ⟨rfl, hb⟩; have D2 := Lib.hid (thru D1.out hb); clear hb))
      go_ret
      exact ⟨rfl, thru B0.out D2.out⟩
    · by_cases hg3 : (20 : Int) < (n2 : Int)
      · go_enter Tryd.func3, Tryd.ntmps3
        go_upto_region 1 with fail
        rw [← HW0.out]
        go_wp2_with (first
          | (go_at_call 6; have HX := HS1.out _ D0.out; (with_reducible refine HX.mono ?_); clear HX; rintro e w_D1 ⟨rfl, hb⟩; have D1 := Lib.hid (thru D0.out hb); obtain ⟨x10, x11, x12, x13⟩ := HSB.out _ D1.out; clear hb)
          | (go_at_call 7; have HX := HA.out _ D1.out; (with_reducible refine HX.mono ?_); clear HX; rintro e w_D2 ⟨rfl, hb⟩; have D2 := Lib.hid (thru D1.out hb); clear hb))
        go_ret
        exact ⟨rfl, thru B0.out D2.out⟩
      · by_cases hg4 : (20 : Int) < (n3 : Int)
        · go_enter Tryd.func3, Tryd.ntmps3
          go_upto_region 1 with fail
          rw [← HW0.out]
          go_wp2_with (first
            | (go_at_call 6; have HX := HS1.out _ D0.out; (with_reducible refine HX.mono ?_); clear HX; rintro e w_D1 ⟨rfl, hb⟩; have D1 := Lib.hid (thru D0.out hb); obtain ⟨x10, x11, x12, x13⟩ := HSB.out _ D1.out; clear hb)
            | (go_at_call 7; have HX := HA.out _ D1.out; (with_reducible refine HX.mono ?_); clear HX; rintro e w_D2 ⟨rfl, hb⟩; have D2 := Lib.hid (thru D1.out hb); clear hb))
          go_ret
          exact ⟨rfl, thru B0.out D2.out⟩
        · have HXp : Hid (∀ w', Below W0.heap.size W0 w' → Calls Tryd.prog 8 #[pgV (.slice E1 n1 e1) (.slice V1 n2 v1) (.slice R1 n3 z1) (.slice M1 p.main.length d1)] w' (RetPg n p w')) := Lib.hid fun w' hb => prog_any n p _ _ _ _ w' ((HPg.out.below (thru B0.out hb) (fun b h => h)).wide (lo_up (fun b h => h) (thru B0.out hb).size))
          go_enter Tryd.func3, Tryd.ntmps3
          go_upto_region 1 with fail
          rw [← HW0.out]
          go_upto_region 3 with (go_at_call 6; have HX := HS1.out _ D0.out; (with_reducible refine HX.mono ?_); clear HX; rintro e w_D1 ⟨rfl, hb⟩; have D1 := Lib.hid (thru D0.out hb); obtain ⟨x10, x11, x12, x13⟩ := HSB.out _ D1.out; clear hb)
          go_upto_region 4 with (go_at_call 8; have HX := HXp.out _ D1.out; (with_reducible refine HX.mono ?_); clear HX; rintro e w1 ⟨a1, a2, a3, a4, rfl, hp, hb⟩; obtain ⟨A1, c1, rfl, -, -⟩ := hp.en.slice; obtain ⟨A2, c2, rfl, -, -⟩ := hp.va.slice; obtain ⟨A3, c3, rfl, -, -⟩ := hp.pr.slice; obtain ⟨A4, c4, rfl, -, -⟩ := hp.mn.slice; have C1 := Lib.hid (thru D1.out hb); have P1 := Lib.hid hp; clear hb hp)
          rw [HN1.out, HN2.out, HN3.out] at P1 ⊢
          obtain ⟨W2, hW2⟩ : ∃ W2, W2 = w1.alloc (.cells #[.slice A1 n1 c1, .slice A2 n2 c2, .slice A3 n3 c3, .slice A4 p.main.length c4] 35) := ⟨_, rfl⟩
          have E2 : Hid (Below w1.heap.size w1 W2) := Lib.hid (by rw [hW2]; exact (Below.refl _ _).alloc (Nat.le_refl _) _)
          have K5 : Hid (Blk W2 w1.heap.size 35 #[.slice A1 n1 c1, .slice A2 n2 c2, .slice A3 n3 c3, .slice A4 p.main.length c4]) := Lib.hid (by rw [hW2]; exact Blk.new w1 _ _)
          rw [← hW2]
          clear hW2 hg1 hg2 hg3 hg4 HW0 x0 x1 x2 x3 x10 x11 x12 x13
          have BW : Hid (∀ w', Below W2.heap.size W2 w' → Below W0.heap.size W0 w') := Lib.hid fun w' hb => thru (thru C1.out E2.out) hb
          have HSX : Hid (∀ w', Below W2.heap.size W2 w' → (w'.cell? ⟨W.heap.size, 0, none⟩ = some (.slice E1 n1 e1) ∧ w'.cell? ⟨W.heap.size, 1, none⟩ = some (.slice V1 n2 v1) ∧ w'.cell? ⟨W.heap.size, 2, none⟩ = some (.slice R1 n3 z1) ∧ w'.cell? ⟨W.heap.size, 3, none⟩ = some (.slice M1 p.main.length d1)) ∧ w'.cell? ⟨w1.heap.size, 0, none⟩ = some (.slice A1 n1 c1) ∧ w'.cell? ⟨w1.heap.size, 1, none⟩ = some (.slice A2 n2 c2) ∧ w'.cell? ⟨w1.heap.size, 2, none⟩ = some (.slice A3 n3 c3) ∧ w'.cell? ⟨w1.heap.size, 3, none⟩ = some (.slice A4 p.main.length c4)) := Lib.hid fun w' hb => ⟨HSB.out _ (BW.out _ hb), (K5.out.below hb K5.out.lt).cell 0, (K5.out.below hb K5.out.lt).cell 1, (K5.out.below hb K5.out.lt).cell 2, (K5.out.below hb K5.out.lt).cell 3⟩
          have HP2 : Hid (∀ w', Below W2.heap.size W2 w' → PgR (fun b => b < w1.heap.size) n w' p (.slice A1 n1 c1) (.slice A2 n2 c2) (.slice A3 n3 c3) (.slice A4 p.main.length c4)) := Lib.hid fun w' hb => P1.out.below (thru E2.out hb) (fun b h => h)
          have HPr : Hid (∀ w', Below W2.heap.size W2 w' → PgR (fun b => b < W.heap.size) n w' p (.slice E1 n1 e1) (.slice V1 n2 v1) (.slice R1 n3 z1) (.slice M1 p.main.length d1)) := Lib.hid fun w' hb => HPg.out.below (thru B0.out (BW.out _ hb)) (fun b h => h)
          have HLo : Hid (∀ w', Below W2.heap.size W2 w' → ∀ b, b < W.heap.size → b < w'.heap.size) := Lib.hid fun w' hb => lo_up (fun b h => h) (thru B0.out (BW.out _ hb)).size
          have HLo1 : Hid (∀ w', Below W2.heap.size W2 w' → ∀ b, b < w1.heap.size → b < w'.heap.size) := Lib.hid fun w' hb => lo_up (fun b h => h) (thru E2.out hb).size
          obtain ⟨dp, hdp⟩ : ∃ q : Int, q = (depB p.main : Int) := ⟨_, rfl⟩
          have HCd : Hid (∀ w', Below W2.heap.size W2 w' → Calls Tryd.prog 9 #[.slice A4 p.main.length c4] w' (fun e w2 => e = .returned (.int .i64 dp) ∧ Below w'.heap.size w' w2)) := Lib.hid fun w' hb => by
            rw [hdp]; exact depth_any n p.main _ _ w' (HP2.out _ hb).mn (HLo1.out _ hb) (Nat.le_trans HDeep.out.1 (by decide))
          have HCe : Hid (∀ w', Below W2.heap.size W2 w' → Calls Tryd.prog 10 #[.slice M1 p.main.length d1] w' (fun e w2 => e = .returned (.int .i64 dp) ∧ Below w'.heap.size w' w2)) := Lib.hid fun w' hb => by
            rw [hdp]; exact rdepth_any n p.main _ _ w' (HPr.out _ hb).mn (HLo.out _ hb) (Nat.le_trans HDeep.out.1 (by decide))
          have HCs : Hid (∀ w', Below W2.heap.size W2 w' → Calls Tryd.prog 11 #[pgV (.slice A1 n1 c1) (.slice A2 n2 c2) (.slice A3 n3 c3) (.slice A4 p.main.length c4)] w' (fun e w2 => e = .returned (.int .i64 s1) ∧ Below w'.heap.size w' w2)) := Lib.hid fun w' hb => by
            rw [HS1e.out]; exact sized_any n p _ _ _ _ _ w' (HP2.out _ hb) (HLo1.out _ hb)
          have HCt : Hid (∀ w', Below W2.heap.size W2 w' → Calls Tryd.prog 6 #[pgV (.slice E1 n1 e1) (.slice V1 n2 v1) (.slice R1 n3 z1) (.slice M1 p.main.length d1)] w' (fun e w2 => e = .returned (.int .i64 s1) ∧ Below w'.heap.size w' w2)) := Lib.hid fun w' hb => HS1.out _ (BW.out _ hb)
          obtain ⟨bw, hbw⟩ : ∃ q, wholeP p = q := ⟨_, rfl⟩
          have HWh := Lib.hid hbw
          have HCw : Hid (∀ w', Below W2.heap.size W2 w' → Calls Tryd.prog 12 #[pgV (.slice E1 n1 e1) (.slice V1 n2 v1) (.slice R1 n3 z1) (.slice M1 p.main.length d1)] w' (fun e w2 => e = .returned (.bool bw) ∧ Below w'.heap.size w' w2)) := Lib.hid fun w' hb => by
            rw [← hbw]; exact rwholeP_any n p _ _ _ _ _ w' (HPr.out _ hb) (HLo.out _ hb)
          have HA2 : Hid (∀ w', Below W2.heap.size W2 w' → Calls Tryd.prog 7 #[] w' (fun e w2 => e = .returned (.bool true) ∧ Below w'.heap.size w' w2)) := Lib.hid fun w' hb => HA.out _ (BW.out _ hb)
          have CD : Hid (Below W2.heap.size W2 W2.drew) := Lib.hid (Below.refl _ _).drew
          have S0 := Lib.hid (HSX.out _ CD.out)
          clear hdp hbw HS1 HS1e HXp
          go_cut [43] (fun t43 wx => t43 = .bool false ∧ Below W2.heap.size W2 wx)
          case first =>
            go_region_held3 (fun w' => (w'.cell? ⟨W.heap.size, 0, none⟩ = some (.slice E1 n1 e1) ∧ w'.cell? ⟨W.heap.size, 1, none⟩ = some (.slice V1 n2 v1) ∧ w'.cell? ⟨W.heap.size, 2, none⟩ = some (.slice R1 n3 z1) ∧ w'.cell? ⟨W.heap.size, 3, none⟩ = some (.slice M1 p.main.length d1)) ∧ w'.cell? ⟨w1.heap.size, 0, none⟩ = some (.slice A1 n1 c1) ∧ w'.cell? ⟨w1.heap.size, 1, none⟩ = some (.slice A2 n2 c2) ∧ w'.cell? ⟨w1.heap.size, 2, none⟩ = some (.slice A3 n3 c3) ∧ w'.cell? ⟨w1.heap.size, 3, none⟩ = some (.slice A4 p.main.length c4))
              (first | (with_reducible exact S0.out) | (with_reducible exact S1.out) | (with_reducible exact S2.out) | (with_reducible exact S3.out) | (with_reducible exact S4.out))
              (first
              | (go_at_call 9; have HX := HCd.out _ CD.out; (with_reducible refine HX.mono ?_); clear HX; rintro e u_F1 ⟨rfl, hb⟩; have F1 := Lib.hid (thru CD.out hb); have S1 := Lib.hid (HSX.out _ F1.out); clear hb)
              | (go_at_call 10; have HX := HCe.out _ F1.out; (with_reducible refine HX.mono ?_); clear HX; rintro e u_F2 ⟨rfl, hb⟩; have F2 := Lib.hid (thru F1.out hb); have S2 := Lib.hid (HSX.out _ F2.out); clear hb)
              | (go_at_call 11; have HX := HCs.out _ F2.out; (with_reducible refine HX.mono ?_); clear HX; rintro e u_F3 ⟨rfl, hb⟩; have F3 := Lib.hid (thru F2.out hb); have S3 := Lib.hid (HSX.out _ F3.out); clear hb)
              | (go_at_call 6; have HX := HCt.out _ F3.out; (with_reducible refine HX.mono ?_); clear HX; rintro e u_F4 ⟨rfl, hb⟩; have F4 := Lib.hid (thru F3.out hb); have S4 := Lib.hid (HSX.out _ F4.out); clear hb))
            all_goals go_wp2_with fail
            all_goals go_meet
            all_goals exact ⟨by simp, F4.out⟩
          case rest =>
            obtain ⟨rfl, hwc⟩ := hcut
            have G0 := Lib.hid hwc
            clear hwc S0
            obtain ⟨⟨y0, y1, y2, y3⟩, y4, y5, y6, y7⟩ := HSX.out _ G0.out
            cases bw
            · go_wp2_with (first
                | (go_at_call 12; have HX := HCw.out _ G0.out; (with_reducible refine HX.mono ?_); clear HX; rintro e w_G1 ⟨rfl, hb⟩; have G1 := Lib.hid (thru G0.out hb); clear hb)
                | (go_at_call 7; have HX := HA2.out _ G1.out; (with_reducible refine HX.mono ?_); clear HX; rintro e w_G2 ⟨rfl, hb⟩; have G2 := Lib.hid (thru G1.out hb); clear hb))
              go_ret
              exact ⟨rfl, thru B0.out (BW.out _ G2.out)⟩
            · obtain ⟨TX, hTX⟩ : ∃ T : ByteArray, T = ⟨(printF Lib.itoa p).toArray⟩ := ⟨_, rfl⟩
              have HPX : Hid (∀ w', Below W2.heap.size W2 w' → Calls Tryd.prog 13 #[pgV (.slice A1 n1 c1) (.slice A2 n2 c2) (.slice A3 n3 c3) (.slice A4 p.main.length c4)] w' (fun e w2 => e = .returned (.string TX) ∧ Below w'.heap.size w' w2)) := Lib.hid fun w' hb => by
                rw [hTX]; exact print_any n p _ _ _ _ _ w' (HP2.out _ hb) (HLo1.out _ hb) (HT.out.stays (thru B0.out (BW.out _ hb))) HDeep.out HLen.out
              have HPR : Hid (∀ w', Below W2.heap.size W2 w' → Calls Tryd.prog 14 #[pgV (.slice E1 n1 e1) (.slice V1 n2 v1) (.slice R1 n3 z1) (.slice M1 p.main.length d1)] w' (fun e w2 => e = .returned (.string TX) ∧ Below w'.heap.size w' w2)) := Lib.hid fun w' hb => by
                rw [hTX]; exact rprint_any n p _ _ _ _ _ w' (HPr.out _ hb) (HLo.out _ hb) HWh.out HLen.out
              clear hTX
              obtain ⟨A, cap, hV, -, -, hat⟩ := HPg.out.va
              injection hV with hV1 hV2 hV3
              subst hV1
              have HAt := Lib.hid hat
              clear hat hV2 hV3
              go_wp2_with (go_at_call 12; have HX := HCw.out _ G0.out; (with_reducible refine HX.mono ?_); clear HX; rintro e w_G1 ⟨rfl, hb⟩; have G1 := Lib.hid (thru G0.out hb); obtain ⟨⟨r0, r1, r2, r3⟩, r4, r5, r6, r7⟩ := HSX.out _ G1.out; clear hb)
              clear y0 y1 y2 y3 y4 y5 y6 y7 r0 r1 r2 r3 r4 r5 r6 r7
              go_loopw [51] (fun i wr => ∃ k : Nat, i = .int .i64 (k : Int) ∧ k ≤ n2 ∧ Below W2.heap.size W2 wr) (fun i _ => n2 - (RowKit.intOf i).toNat)
              case atStart => exact ⟨0, rfl, Nat.zero_le _, G1.out⟩
              case round =>
                obtain ⟨k, rfl, hk, hbr⟩ := hrel
                have GR := Lib.hid hbr
                clear hbr G0 G1
                by_cases hlt : k < n2
                · obtain ⟨x, hx⟩ : ∃ x, p.vars[k]? = some x := ⟨p.vars[k]'(by rw [HN2.out]; exact hlt), List.getElem?_eq_getElem _⟩
                  obtain ⟨b, off, rfl, hbB, hcc, hin⟩ := HAt.out k x hx
                  obtain ⟨x0, x1, x2⟩ := keep3 hcc ((thru B0.out (BW.out _ GR.out)).block b hbB)
                  have HIn := Lib.hid hin
                  obtain ⟨W3, hW3⟩ : ∃ W3, W3 = wr.alloc (.cells #[.string x.1, .string x.2.1, .int .i64 x.2.2] 42) := ⟨_, rfl⟩
                  have G3 : Hid (Below W2.heap.size W2 W3) := Lib.hid (thru GR.out (by rw [hW3]; exact (Below.refl _ _).alloc (Nat.le_refl _) _))
                  have K3 : Hid (Blk W3 wr.heap.size 42 #[.string x.1, .string x.2.1, .int .i64 x.2.2]) := Lib.hid (by rw [hW3]; exact Blk.new wr _ _)
                  have HW3 := Lib.hid hW3
                  clear hW3 hcc hx hin
                  have t2 := K3.out.cell 2
                  simp at t2
                  go_upto_region 11 with fail
                  rw [← HW3.out]
                  clear x0 x1 x2
                  by_cases hv : x.2.2 < 0
                  · go_wp2_with (go_at_call 7; have HX := HA2.out _ G3.out; (with_reducible refine HX.mono ?_); clear HX; rintro e w_4 ⟨rfl, hb⟩; have G4 := Lib.hid (thru G3.out hb); clear hb)
                    go_ret
                    exact ⟨rfl, thru B0.out (BW.out _ G4.out)⟩
                  · go_wp2_with fail
                    go_roundw
                    case rel => exact ⟨k + 1, by go_num, hlt, G3.out⟩
                    case measure => simp [RowKit.intOf]; omega
                · have he : k = n2 := by omega
                  subst he
                  have GD : Hid (Below W2.heap.size W2 wr.drew) := Lib.hid (thru GR.out (Below.refl _ _).drew)
                  have S0 := Lib.hid (HSX.out _ GD.out)
                  go_wp2_with fail
                  go_region_held3 (fun w' => (w'.cell? ⟨W.heap.size, 0, none⟩ = some (.slice E1 n1 e1) ∧ w'.cell? ⟨W.heap.size, 1, none⟩ = some (.slice V1 k v1) ∧ w'.cell? ⟨W.heap.size, 2, none⟩ = some (.slice R1 n3 z1) ∧ w'.cell? ⟨W.heap.size, 3, none⟩ = some (.slice M1 p.main.length d1)) ∧ w'.cell? ⟨w1.heap.size, 0, none⟩ = some (.slice A1 n1 c1) ∧ w'.cell? ⟨w1.heap.size, 1, none⟩ = some (.slice A2 k c2) ∧ w'.cell? ⟨w1.heap.size, 2, none⟩ = some (.slice A3 n3 c3) ∧ w'.cell? ⟨w1.heap.size, 3, none⟩ = some (.slice A4 p.main.length c4))
                    (first | (with_reducible exact S0.out) | (with_reducible exact S1.out) | (with_reducible exact S2.out) | (with_reducible exact S3.out) | (with_reducible exact S4.out))
                    (first
                    | (go_at_call 7; have HX := HA2.out _ GD.out; (with_reducible refine HX.mono ?_); clear HX; rintro e u_F1 ⟨rfl, hb⟩; have F1 := Lib.hid (thru GD.out hb); have S1 := Lib.hid (HSX.out _ F1.out); clear hb)
                    | (go_at_call 13; have HX := HPX.out _ F1.out; (with_reducible refine HX.mono ?_); clear HX; rintro e u_F2 ⟨rfl, hb⟩; have F2 := Lib.hid (thru F1.out hb); have S2 := Lib.hid (HSX.out _ F2.out); clear hb)
                    | (go_at_call 14; have HX := HPR.out _ F2.out; (with_reducible refine HX.mono ?_); clear HX; rintro e u_F3 ⟨rfl, hb⟩; have F3 := Lib.hid (thru F2.out hb); have S3 := Lib.hid (HSX.out _ F3.out); clear hb))
                  all_goals go_wp2_with fail
                  all_goals go_ret
                  all_goals exact ⟨by simp, thru B0.out (BW.out _ F3.out)⟩
end Go.Proofs.YtklfcjimgnnlfaaDoor
