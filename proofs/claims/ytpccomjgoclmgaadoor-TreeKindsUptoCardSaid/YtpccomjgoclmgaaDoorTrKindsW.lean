/- TreeKinds: the walk. -/
import Derived.Test.YtpccomjgoclmgaaDoorTrProg
import Derived.Test.YtpccomjgoclmgaaDoorTrSized
import Derived.Test.YtpccomjgoclmgaaDoorTrRefB
import Derived.Test.YtpccomjgoclmgaaDoorTrAlive
import Derived.Test.YtpccomjgoclmgaaDoorTrPgSame
import Derived.Test.YtpccomjgoclmgaaDoorTrArgsP
import Derived.Deep.RegionHeld3
import Derived.Deep.DeepCutAuto
import Derived.Deep.CutBlock
namespace Go.Proofs.YtpccomjgoclmgaaDoor
open Go.RowKit
theorem guardRV : Tryd.prog.eqGuardType Tryd.prog.depth 56 = false := by kernel_rfl
theorem heldRV : Tryd.prog.stoodInHeld 56 = false := by kernel_rfl
theorem eqRV (x y x' y' : ByteArray) (k k' : Int) (w : World) : (binOp .eql 56 (.agg #[.string x, .string y, .int .i64 k]) (.agg #[.string x', .string y', .int .i64 k'])).run Tryd.prog w = .ok (.bool (sameVr (x, y, k) (x', y', k'))) w := by
  rw [run_eql_struct]
  have : (Op.equalIn 10000 56 (.agg #[.string x, .string y, .int .i64 k]) (.agg #[.string x', .string y', .int .i64 k'])).run Tryd.prog w = .ok (sameVr (x, y, k) (x', y', k')) w := by
    rw [run_equalIn_struct w 9999 56 _ _ (by unfold Program.fieldsOf; rw [Tryd.underlying56]) heldRV]
    unfold sameVr
    cases h1 : (x.toList == x'.toList) <;> cases h2 : (y.toList == y'.toList) <;> cases h3 : (k == k') <;> simp [Program.fieldsOf, Tryd.underlying56, Op.eqFields, part, go_sem, h1, h2, h3, Tryd.underlying3, Tryd.underlying9]
  rw [this]; rfl
theorem eqgRV (op : BinOp) (x y : Operand) (xs ys : Array Value) (w : World) : (eqGuard op 56 x y (.agg xs) (.agg ys)).run Tryd.prog w = .ok () w := run_eqGuard_agg w op 56 x y xs ys guardRV
attribute [local go_sem ↓] eqRV eqgRV
set_option maxRecDepth 100000 in
set_option maxHeartbeats 25600000 in
theorem kinds_walk (n1' : Nat) (p : Pg) (vE vV vP vM : Value) (n2' : Nat) (q : Pg) (uE uV uP uM : Value) (W : World) (ht : Tabs W) (h1 : PgR (fun b => b < W.heap.size) n1' W p vE vV vP vM) (_ : costP p ≤ 1048576) (h2 : PgR (fun b => b < W.heap.size) n2' W q uE uV uP uM) (_ : costP q ≤ 1048576) :
    Calls Tryd.prog 7 #[pgV vE vV vP vM, pgV uE uV uP uM] W fun e w' => e = .returned (.bool true) ∧ Below W.heap.size W w' := by
  obtain ⟨n, hn⟩ : ∃ n, n = n1' + n2' := ⟨_, rfl⟩
  replace h1 := h1.le (show n1' ≤ n by omega)
  replace h2 := h2.le (show n2' ≤ n by omega)
  clear hn
  obtain ⟨E1, e1, rfl, he1, hE1, hatE1⟩ := h1.en
  obtain ⟨V1, v1, rfl, hv1, hV1, hatV1⟩ := h1.va
  obtain ⟨R1, z1, rfl, hz1, hR1, hatR1⟩ := h1.pr
  obtain ⟨M1, d1, rfl, hd1, hM1⟩ := h1.mn.slice
  have HPg1 := Lib.hid h1
  have HMn1 := Lib.hid h1.mn
  have HAE1 := Lib.hid hatE1
  have HAV1 := Lib.hid hatV1
  have HAR1 := Lib.hid hatR1
  have kE1 : p.enums.length ≤ 35184372088832 := by omega
  have kV1 : p.vars.length ≤ 35184372088832 := by omega
  have kR1 : p.procs.length ≤ 35184372088832 := by omega
  clear hatE1 hatV1 hatR1 hE1 hV1 hR1 hM1 hd1 h1
  obtain ⟨m1, hm1⟩ : ∃ m, p.enums.length = m := ⟨_, rfl⟩
  obtain ⟨n1, hn1⟩ : ∃ m, p.vars.length = m := ⟨_, rfl⟩
  obtain ⟨r1, hr1⟩ : ∃ m, p.procs.length = m := ⟨_, rfl⟩
  have HNE1 := Lib.hid hm1
  have HNV1 := Lib.hid hn1
  have HNR1 := Lib.hid hr1
  rw [hm1] at he1 kE1 HPg1 ⊢
  rw [hn1] at hv1 kV1 HPg1 ⊢
  rw [hr1] at hz1 kR1 HPg1 ⊢
  clear hm1 hn1 hr1
  obtain ⟨E2, e2, rfl, he2, hE2, hatE2⟩ := h2.en
  obtain ⟨V2, v2, rfl, hv2, hV2, hatV2⟩ := h2.va
  obtain ⟨R2, z2, rfl, hz2, hR2, hatR2⟩ := h2.pr
  obtain ⟨M2, d2, rfl, hd2, hM2⟩ := h2.mn.slice
  have HPg2 := Lib.hid h2
  have HMn2 := Lib.hid h2.mn
  have HAE2 := Lib.hid hatE2
  have HAV2 := Lib.hid hatV2
  have HAR2 := Lib.hid hatR2
  have kE2 : q.enums.length ≤ 35184372088832 := by omega
  have kV2 : q.vars.length ≤ 35184372088832 := by omega
  have kR2 : q.procs.length ≤ 35184372088832 := by omega
  clear hatE2 hatV2 hatR2 hE2 hV2 hR2 hM2 hd2 h2
  obtain ⟨m2, hm2⟩ : ∃ m, q.enums.length = m := ⟨_, rfl⟩
  obtain ⟨n2, hn2⟩ : ∃ m, q.vars.length = m := ⟨_, rfl⟩
  obtain ⟨r2, hr2⟩ : ∃ m, q.procs.length = m := ⟨_, rfl⟩
  have HNE2 := Lib.hid hm2
  have HNV2 := Lib.hid hn2
  have HNR2 := Lib.hid hr2
  rw [hm2] at he2 kE2 HPg2 ⊢
  rw [hn2] at hv2 kV2 HPg2 ⊢
  rw [hr2] at hz2 kR2 HPg2 ⊢
  clear hm2 hn2 hr2
  obtain ⟨Wa, hWa⟩ : ∃ Wa, Wa = (W.alloc (.cells #[.slice E1 m1 e1, .slice V1 n1 v1, .slice R1 r1 z1, .slice M1 p.main.length d1] 43)) := ⟨_, rfl⟩
  obtain ⟨W0, hW0⟩ : ∃ W0, W0 = Wa.alloc (.cells #[.slice E2 m2 e2, .slice V2 n2 v2, .slice R2 r2 z2, .slice M2 q.main.length d2] 43) := ⟨_, rfl⟩
  have hba : Below W.heap.size W Wa := by rw [hWa]; exact (Below.refl _ _).alloc (Nat.le_refl _) _
  have hbb : Below Wa.heap.size Wa W0 := by rw [hW0]; exact (Below.refl _ _).alloc (Nat.le_refl _) _
  have hsa : Wa.heap.size = W.heap.size + 1 := by rw [hWa, World.size_alloc]
  have hka : Blk Wa W.heap.size 43 #[.slice E1 m1 e1, .slice V1 n1 v1, .slice R1 r1 z1, .slice M1 p.main.length d1] := by rw [hWa]; exact Blk.new W _ _
  have HKa : Hid (Blk W0 W.heap.size 43 #[.slice E1 m1 e1, .slice V1 n1 v1, .slice R1 r1 z1, .slice M1 p.main.length d1]) := Lib.hid (hka.below hbb hka.lt)
  have HKb : Hid (Blk W0 (W.heap.size + 1) 43 #[.slice E2 m2 e2, .slice V2 n2 v2, .slice R2 r2 z2, .slice M2 q.main.length d2]) := Lib.hid (by rw [hW0, ← hsa]; exact Blk.new Wa _ _)
  have B0 := Lib.hid (thru hba hbb)
  have HW0 : Hid (W0 = (W.alloc (.cells #[.slice E1 m1 e1, .slice V1 n1 v1, .slice R1 r1 z1, .slice M1 p.main.length d1] 43)).alloc (.cells #[.slice E2 m2 e2, .slice V2 n2 v2, .slice R2 r2 z2, .slice M2 q.main.length d2] 43)) := Lib.hid (by rw [← hWa]; exact hW0)
  clear hWa hW0 hba hbb hsa hka
  have HSB : Hid (∀ w', Below W0.heap.size W0 w' → (w'.cell? ⟨W.heap.size, 0, none⟩ = some (.slice E1 m1 e1) ∧ w'.cell? ⟨W.heap.size, 1, none⟩ = some (.slice V1 n1 v1) ∧ w'.cell? ⟨W.heap.size, 2, none⟩ = some (.slice R1 r1 z1) ∧ w'.cell? ⟨W.heap.size, 3, none⟩ = some (.slice M1 p.main.length d1)) ∧ w'.cell? ⟨W.heap.size + 1, 0, none⟩ = some (.slice E2 m2 e2) ∧ w'.cell? ⟨W.heap.size + 1, 1, none⟩ = some (.slice V2 n2 v2) ∧ w'.cell? ⟨W.heap.size + 1, 2, none⟩ = some (.slice R2 r2 z2) ∧ w'.cell? ⟨W.heap.size + 1, 3, none⟩ = some (.slice M2 q.main.length d2)) := Lib.hid fun w' hb => ⟨⟨(HKa.out.below hb HKa.out.lt).cell 0, (HKa.out.below hb HKa.out.lt).cell 1, (HKa.out.below hb HKa.out.lt).cell 2, (HKa.out.below hb HKa.out.lt).cell 3⟩, (HKb.out.below hb HKb.out.lt).cell 0, (HKb.out.below hb HKb.out.lt).cell 1, (HKb.out.below hb HKb.out.lt).cell 2, (HKb.out.below hb HKb.out.lt).cell 3⟩
  have HA : Hid (∀ w', Below W0.heap.size W0 w' → Calls Tryd.prog 10 #[] w' (fun e w2 => e = .returned (.bool true) ∧ Below w'.heap.size w' w2)) := Lib.hid fun w' hb => alive_any w' (ht.stays (thru B0.out hb))
  obtain ⟨s1, hs1⟩ : ∃ s, s = W64 (szPg p) := ⟨_, rfl⟩
  obtain ⟨s2, hs2⟩ : ∃ s, s = W64 (szPg q) := ⟨_, rfl⟩
  have HS1 : Hid (∀ w', Below W0.heap.size W0 w' → Calls Tryd.prog 16 #[pgV (.slice E1 m1 e1) (.slice V1 n1 v1) (.slice R1 r1 z1) (.slice M1 p.main.length d1)] w' (fun e w2 => e = .returned (.int .i64 s1) ∧ Below w'.heap.size w' w2)) := Lib.hid fun w' hb => by
    rw [hs1]
    exact rSized_any n p _ _ _ _ _ w' (HPg1.out.below (thru B0.out hb) (fun b h => h)) (lo_up (fun b h => h) (thru B0.out hb).size)
  have HS2 : Hid (∀ w', Below W0.heap.size W0 w' → Calls Tryd.prog 16 #[pgV (.slice E2 m2 e2) (.slice V2 n2 v2) (.slice R2 r2 z2) (.slice M2 q.main.length d2)] w' (fun e w2 => e = .returned (.int .i64 s2) ∧ Below w'.heap.size w' w2)) := Lib.hid fun w' hb => by
    rw [hs2]
    exact rSized_any n q _ _ _ _ _ w' (HPg2.out.below (thru B0.out hb) (fun b h => h)) (lo_up (fun b h => h) (thru B0.out hb).size)
  have HR : Hid (∀ (l r : List St) (x y : Value) (w' : World), Below W0.heap.size W0 w' → StR (fun b => b < W.heap.size) n W l x → StR (fun b => b < W.heap.size) n W r y → Calls Tryd.prog 25 #[x, y] w' (fun e w2 => e = .returned (.bool (sameB l r)) ∧ Below w'.heap.size w' w2)) := Lib.hid fun l r x y w' hb hx hy =>
    rblkEq_any n l r x y _ w' (hx.below (thru B0.out hb) (fun b h => h)) (hy.below (thru B0.out hb) (fun b h => h)) (lo_up (fun b h => h) (thru B0.out hb).size)
  obtain ⟨sm, hsm⟩ : ∃ s, s = sameB p.main q.main := ⟨_, rfl⟩
  have HM : Hid (∀ w', Below W0.heap.size W0 w' → Calls Tryd.prog 25 #[.slice M1 p.main.length d1, .slice M2 q.main.length d2] w' (fun e w2 => e = .returned (.bool sm) ∧ Below w'.heap.size w' w2)) := Lib.hid fun w' hb => by
    rw [hsm]
    exact HR.out _ _ _ _ w' hb HMn1.out HMn2.out
  have HSM := Lib.hid hsm
  have D0 : Hid (Below W0.heap.size W0 W0) := Lib.hid (Below.refl _ _)
  obtain ⟨⟨x0, x1, x2, x3⟩, y0, y1, y2, y3⟩ := HSB.out _ D0.out
  have HT := Lib.hid ht
  clear hs1 hs2 hsm ht
  by_cases hg1 : (300 : Int) < s1
  · go_enter Tryd.func7, Tryd.ntmps7
    go_upto_region 1 with fail
    rw [← HW0.out]
    go_wp2_with (first
      | (go_at_call 16; have HX := HS1.out _ D0.out; (with_reducible refine HX.mono ?_); clear HX; rintro e w_D1 ⟨rfl, hb⟩; have D1 := Lib.hid (thru D0.out hb); clear hb)
      | (go_at_call 10; have HX := HA.out _ D1.out; (with_reducible refine HX.mono ?_); clear HX; rintro e w_D2 ⟨rfl, hb⟩; have D2 := Lib.hid (thru D1.out hb); clear hb))
    go_ret
    exact ⟨rfl, thru B0.out D2.out⟩
  · by_cases hg2 : (300 : Int) < s2
    · go_enter Tryd.func7, Tryd.ntmps7
      go_upto_region 1 with fail
      rw [← HW0.out]
      go_wp2_with (first
        | (go_at_call 16; have HX := HS1.out _ D0.out; (with_reducible refine HX.mono ?_); clear HX; rintro e w_D1 ⟨rfl, hb⟩; have D1 := Lib.hid (thru D0.out hb); obtain ⟨⟨x10, x11, x12, x13⟩, y10, y11, y12, y13⟩ := HSB.out _ D1.out; clear hb)
        | (go_at_call 16; have HX := HS2.out _ D1.out; (with_reducible refine HX.mono ?_); clear HX; rintro e w_D2 ⟨rfl, hb⟩; have D2 := Lib.hid (thru D1.out hb); clear hb)
        | (go_at_call 10; have HX := HA.out _ D2.out; (with_reducible refine HX.mono ?_); clear HX; rintro e w_D3 ⟨rfl, hb⟩; have D3 := Lib.hid (thru D2.out hb); clear hb))
      go_ret
      exact ⟨rfl, thru B0.out D3.out⟩
    · obtain ⟨b0, hb0⟩ : ∃ b, b = (sm && (decide (m1 = m2) && (decide (n1 = n2) && decide (r1 = r2)))) := ⟨_, rfl⟩
      have HB := Lib.hid hb0
      clear hb0
      go_enter Tryd.func7, Tryd.ntmps7
      go_upto_region 1 with fail
      rw [← HW0.out]
      go_upto_region 3 with (first
        | (go_at_call 16; have HX := HS1.out _ D0.out; (with_reducible refine HX.mono ?_); clear HX; rintro e w_D1 ⟨rfl, hb⟩; have D1 := Lib.hid (thru D0.out hb); obtain ⟨⟨x10, x11, x12, x13⟩, y10, y11, y12, y13⟩ := HSB.out _ D1.out; clear hb)
        | (go_at_call 16; have HX := HS2.out _ D1.out; (with_reducible refine HX.mono ?_); clear HX; rintro e w_D2 ⟨rfl, hb⟩; have D2 := Lib.hid (thru D1.out hb); obtain ⟨⟨x20, x21, x22, x23⟩, y20, y21, y22, y23⟩ := HSB.out _ D2.out; clear hb))
      clear x0 x1 x2 x3 y0 y1 y2 y3 x10 x11 x12 x13 y10 y11 y12 y13 hg1 hg2 HS1 HS2 HW0
      go_cut [5] (fun t5 wx => t5 = .bool b0 ∧ Below W0.heap.size W0 wx)
      case first =>
        cases sm
        · have HB2 : Hid (b0 = false) := Lib.hid (by rw [HB.out]; rfl)
          go_wp2_with (go_at_call 25; have HX := HM.out _ D2.out; (with_reducible refine HX.mono ?_); clear HX; rintro e w_D3 ⟨rfl, hb⟩; have D3 := Lib.hid (thru D2.out hb); clear hb)
          go_meet
          exact ⟨by rw [HB2.out], D3.out⟩
        · by_cases c1 : m1 = m2
          · have c1b : ((m1 : Int) == (m2 : Int)) = true := by simp [c1]
            by_cases c2 : n1 = n2
            · have c2b : ((n1 : Int) == (n2 : Int)) = true := by simp [c2]
              by_cases c3 : r1 = r2
              · have c3b : ((r1 : Int) == (r2 : Int)) = true := by simp [c3]
                have HB2 : Hid (b0 = true) := Lib.hid (by rw [HB.out]; simp [c1, c2, c3])
                clear c1 c2 c3
                go_wp2_with (go_at_call 25; have HX := HM.out _ D2.out; (with_reducible refine HX.mono ?_); clear HX; rintro e w_D3 ⟨rfl, hb⟩; have D3 := Lib.hid (thru D2.out hb); obtain ⟨⟨x30, x31, x32, x33⟩, y30, y31, y32, y33⟩ := HSB.out _ D3.out; clear hb)
                go_meet
                exact ⟨by rw [HB2.out], D3.out⟩
              · have c3b : ((r1 : Int) == (r2 : Int)) = false := by simp; omega
                have HB2 : Hid (b0 = false) := Lib.hid (by rw [HB.out]; simp [c3])
                clear c1 c2 c3
                go_wp2_with (go_at_call 25; have HX := HM.out _ D2.out; (with_reducible refine HX.mono ?_); clear HX; rintro e w_D3 ⟨rfl, hb⟩; have D3 := Lib.hid (thru D2.out hb); obtain ⟨⟨x30, x31, x32, x33⟩, y30, y31, y32, y33⟩ := HSB.out _ D3.out; clear hb)
                go_meet
                exact ⟨by rw [HB2.out], D3.out⟩
            · have c2b : ((n1 : Int) == (n2 : Int)) = false := by simp; omega
              have HB2 : Hid (b0 = false) := Lib.hid (by rw [HB.out]; simp [c2])
              clear c1 c2
              go_wp2_with (go_at_call 25; have HX := HM.out _ D2.out; (with_reducible refine HX.mono ?_); clear HX; rintro e w_D3 ⟨rfl, hb⟩; have D3 := Lib.hid (thru D2.out hb); obtain ⟨⟨x30, x31, x32, x33⟩, y30, y31, y32, y33⟩ := HSB.out _ D3.out; clear hb)
              go_meet
              exact ⟨by rw [HB2.out], D3.out⟩
          · have c1b : ((m1 : Int) == (m2 : Int)) = false := by simp; omega
            have HB2 : Hid (b0 = false) := Lib.hid (by rw [HB.out]; simp [c1])
            clear c1
            go_wp2_with (go_at_call 25; have HX := HM.out _ D2.out; (with_reducible refine HX.mono ?_); clear HX; rintro e w_D3 ⟨rfl, hb⟩; have D3 := Lib.hid (thru D2.out hb); obtain ⟨⟨x30, x31, x32, x33⟩, y30, y31, y32, y33⟩ := HSB.out _ D3.out; clear hb)
            go_meet
            exact ⟨by rw [HB2.out], D3.out⟩
      case rest =>
        obtain ⟨rfl, hwc⟩ := hcut
        have HL : Hid (b0 = true → m1 = m2 ∧ n1 = n2 ∧ r1 = r2) := Lib.hid (by rw [HB.out]; intro e; simp only [Bool.and_eq_true, decide_eq_true_eq] at e; exact ⟨e.2.1, e.2.2.1, e.2.2.2⟩)
        have C0 := Lib.hid hwc
        clear hwc x20 x21 x22 x23 y20 y21 y22 y23
        obtain ⟨b1, hb1⟩ : ∃ b, b = (b0 && sameF sameVr p.vars q.vars) := ⟨_, rfl⟩
        have HB1 := Lib.hid hb1
        clear hb1
        go_upto_block 0 with fail
        go_cut [5] (fun t5 wx => t5 = .bool b1 ∧ Below W0.heap.size W0 wx)
        case first =>
          go_wp2_with fail
          go_loopw [5, 6] (fun s i wr => ∃ (k : Nat) (sb : Bool), s = .bool sb ∧ i = .int .i64 (k : Int) ∧ k ≤ n1 ∧ Hid (sb = true → b0 = true) ∧ Hid ((sb && sameF sameVr (p.vars.drop k) (q.vars.drop k)) = b1) ∧ Below W0.heap.size W0 wr) (fun _ i _ => n1 - (RowKit.intOf i).toNat)
          case atStart => exact ⟨0, b0, rfl, rfl, Nat.zero_le _, Lib.hid id, Lib.hid HB1.out.symm, C0.out⟩
          case round =>
            obtain ⟨k, sb, rfl, rfl, hk, HS, HEq, hbw⟩ := hrel
            have HBw := Lib.hid hbw
            clear hbw
            cases sb
            · go_wp2_with fail
              go_meet
              exact ⟨by rw [← HEq.out]; rfl, HBw.out⟩
            · have HS2 := Lib.hid (HS.out rfl)
              have HL2 := Lib.hid (HL.out HS2.out)
              clear HS
              obtain ⟨⟨x0, x1, x2, x3⟩, y0, y1, y2, y3⟩ := HSB.out _ HBw.out
              by_cases hlt : k < n1
              · have hlt2 : k < n2 := by have := HL2.out.2.1; omega
                obtain ⟨x, hx⟩ : ∃ x, p.vars[k]? = some x := ⟨p.vars[k]'(by rw [HNV1.out]; exact hlt), List.getElem?_eq_getElem _⟩
                obtain ⟨y, hy⟩ : ∃ y, q.vars[k]? = some y := ⟨q.vars[k]'(by rw [HNV2.out]; exact hlt2), List.getElem?_eq_getElem _⟩
                obtain ⟨g1, o1, rfl, hg1, ha1, -⟩ := HAV1.out k x hx
                obtain ⟨g2, o2, rfl, hg2, ha2, -⟩ := HAV2.out k y hy
                have HSV : Hid (∀ w', Below W0.heap.size W0 w' → (w'.cell? ⟨W.heap.size, 1, none⟩ = some (.slice (some ⟨g1, o1, none⟩) n1 v1) ∧ w'.cell? ⟨W.heap.size + 1, 1, none⟩ = some (.slice (some ⟨g2, o2, none⟩) n2 v2)) ∧ (w'.cell? ⟨g1, o1 + k * 3, none⟩ = some (.string x.1) ∧ w'.cell? ⟨g1, o1 + k * 3 + 1, none⟩ = some (.string x.2.1) ∧ w'.cell? ⟨g1, o1 + k * 3 + 2, none⟩ = some (.int .i64 x.2.2)) ∧ (w'.cell? ⟨g2, o2 + k * 3, none⟩ = some (.string y.1) ∧ w'.cell? ⟨g2, o2 + k * 3 + 1, none⟩ = some (.string y.2.1) ∧ w'.cell? ⟨g2, o2 + k * 3 + 2, none⟩ = some (.int .i64 y.2.2))) := Lib.hid fun w' hb => ⟨⟨(HSB.out w' hb).1.2.1, (HSB.out w' hb).2.2.1⟩, keep3 ha1 ((thru B0.out hb).block g1 hg1), keep3 ha2 ((thru B0.out hb).block g2 hg2)⟩
                have K0 := Lib.hid (HSV.out _ (thru HBw.out (Below.refl _ _).drew))
                have HSt : Hid (sameF sameVr (p.vars.drop k) (q.vars.drop k) = (sameVr (x.1, x.2.1, x.2.2) (y.1, y.2.1, y.2.2) && sameF sameVr (p.vars.drop (k + 1)) (q.vars.drop (k + 1)))) := Lib.hid (sameF_at _ hx hy)
                obtain ⟨sv, hsv⟩ : ∃ s, s = sameVr (x.1, x.2.1, x.2.2) (y.1, y.2.1, y.2.2) := ⟨_, rfl⟩
                have HSv := Lib.hid hsv
                have HD : Hid (Below W0.heap.size W0 wr.drew) := Lib.hid (thru HBw.out (Below.refl _ _).drew)
                clear ha1 ha2 hx hy hsv
                go_upto_region 7 with fail
                go_region_held3 (fun w' => (w'.cell? ⟨W.heap.size, 1, none⟩ = some (.slice (some ⟨g1, o1, none⟩) n1 v1) ∧ w'.cell? ⟨W.heap.size + 1, 1, none⟩ = some (.slice (some ⟨g2, o2, none⟩) n2 v2)) ∧ (w'.cell? ⟨g1, o1 + k * 3, none⟩ = some (.string x.1) ∧ w'.cell? ⟨g1, o1 + k * 3 + 1, none⟩ = some (.string x.2.1) ∧ w'.cell? ⟨g1, o1 + k * 3 + 2, none⟩ = some (.int .i64 x.2.2)) ∧ (w'.cell? ⟨g2, o2 + k * 3, none⟩ = some (.string y.1) ∧ w'.cell? ⟨g2, o2 + k * 3 + 1, none⟩ = some (.string y.2.1) ∧ w'.cell? ⟨g2, o2 + k * 3 + 2, none⟩ = some (.int .i64 y.2.2))) (first | (with_reducible exact K0.out)) (first | (fail))
                all_goals go_wp2_with fail
                all_goals go_roundw
                case rel => exact ⟨k + 1, _, rfl, by go_num, hlt, Lib.hid fun _ => HS2.out, Lib.hid (by rw [← HEq.out, HSt.out]; simp), HD.out⟩
                case measure => simp [RowKit.intOf]; omega
              · have he : k = n1 := by omega
                subst he
                have HT : Hid (b1 = true) := Lib.hid (by rw [← HEq.out, List.drop_eq_nil_of_le (by rw [HNV1.out]; exact Nat.le_refl _), List.drop_eq_nil_of_le (by rw [HNV2.out, ← HL2.out.2.1]; exact Nat.le_refl _)]; rfl)
                go_wp2_with fail
                go_meet
                exact ⟨by rw [HT.out], HBw.out⟩
        case rest =>
          obtain ⟨rfl, hwc⟩ := hcut
          clear C0
          have C0 := Lib.hid hwc
          clear hwc
          have HBb : Hid (b1 = true → b0 = true) := Lib.hid (fun e => by rw [HB1.out, Bool.and_eq_true] at e; exact e.1)
          obtain ⟨b2, hb2⟩ : ∃ b, b = (b1 && sameF samePr p.procs q.procs) := ⟨_, rfl⟩
          have HB2 := Lib.hid hb2
          clear hb2
          go_upto_block 2 with fail
          go_cut [5] (fun t5 wx => t5 = .bool b2 ∧ Below W0.heap.size W0 wx)
          case first =>
            go_wp2_with fail
            go_loopw [5, 7] (fun s i wr => ∃ (k : Nat) (sb : Bool), s = .bool sb ∧ i = .int .i64 (k : Int) ∧ k ≤ r1 ∧ Hid (sb = true → b0 = true) ∧ Hid ((sb && sameF samePr (p.procs.drop k) (q.procs.drop k)) = b2) ∧ Below W0.heap.size W0 wr) (fun _ i _ => r1 - (RowKit.intOf i).toNat)
            case atStart => exact ⟨0, b1, rfl, rfl, Nat.zero_le _, HBb, Lib.hid HB2.out.symm, C0.out⟩
            case round =>
              obtain ⟨k, sb, rfl, rfl, hk, HS, HEq, hbw⟩ := hrel
              have HBw := Lib.hid hbw
              clear hbw
              cases sb
              · go_wp2_with fail
                go_meet
                exact ⟨by rw [← HEq.out]; rfl, HBw.out⟩
              · have HS2 := Lib.hid (HS.out rfl)
                have HL2 := Lib.hid (HL.out HS2.out)
                clear HS
                obtain ⟨⟨x0, x1, x2, x3⟩, y0, y1, y2, y3⟩ := HSB.out _ HBw.out
                by_cases hlt : k < r1
                · have hlt2 : k < r2 := by have := HL2.out.2.2; omega
                  obtain ⟨x, hx⟩ : ∃ x, p.procs[k]? = some x := ⟨p.procs[k]'(by rw [HNR1.out]; exact hlt), List.getElem?_eq_getElem _⟩
                  obtain ⟨y, hy⟩ : ∃ y, q.procs[k]? = some y := ⟨q.procs[k]'(by rw [HNR2.out]; exact hlt2), List.getElem?_eq_getElem _⟩
                  obtain ⟨g1, o1, L1, rfl, hg1, ha1, hs1⟩ := HAR1.out k x hx
                  obtain ⟨g2, o2, L2, rfl, hg2, ha2, hs2⟩ := HAR2.out k y hy
                  obtain ⟨AL1, cL1, rfl, -, -⟩ := hs1.slice
                  obtain ⟨AL2, cL2, rfl, -, -⟩ := hs2.slice
                  have HSP : Hid (∀ w', Below W0.heap.size W0 w' → (w'.cell? ⟨W.heap.size, 2, none⟩ = some (.slice (some ⟨g1, o1, none⟩) r1 z1) ∧ w'.cell? ⟨W.heap.size + 1, 2, none⟩ = some (.slice (some ⟨g2, o2, none⟩) r2 z2)) ∧ (w'.cell? ⟨g1, o1 + k * 2, none⟩ = some (.string x.1) ∧ w'.cell? ⟨g1, o1 + k * 2 + 1, none⟩ = some (.slice AL1 x.2.length cL1)) ∧ (w'.cell? ⟨g2, o2 + k * 2, none⟩ = some (.string y.1) ∧ w'.cell? ⟨g2, o2 + k * 2 + 1, none⟩ = some (.slice AL2 y.2.length cL2))) := Lib.hid fun w' hb => ⟨⟨(HSB.out w' hb).1.2.2.1, (HSB.out w' hb).2.2.2.1⟩, keep2 ha1 ((thru B0.out hb).block g1 hg1), keep2 ha2 ((thru B0.out hb).block g2 hg2)⟩
                  have K0 := Lib.hid (HSP.out _ (thru HBw.out (Below.refl _ _).drew))
                  obtain ⟨sv, hsv⟩ : ∃ s, s = sameB x.2 y.2 := ⟨_, rfl⟩
                  have HSt : Hid (sameF samePr (p.procs.drop k) (q.procs.drop k) = (((x.1.toList == y.1.toList) && sv) && sameF samePr (p.procs.drop (k + 1)) (q.procs.drop (k + 1)))) := Lib.hid ((sameF_at _ hx hy).trans (by rw [hsv]; rfl))
                  have HD : Hid (Below W0.heap.size W0 wr.drew) := Lib.hid (thru HBw.out (Below.refl _ _).drew)
                  have HCs : Hid (∀ w', Below W0.heap.size W0 w' → Calls Tryd.prog 25 #[.slice AL1 x.2.length cL1, .slice AL2 y.2.length cL2] w' (fun e w2 => e = .returned (.bool sv) ∧ Below w'.heap.size w' w2)) := Lib.hid fun w' hb => by
                    rw [hsv]
                    exact HR.out _ _ _ _ w' hb hs1 hs2
                  clear ha1 ha2 hx hy hsv hs1 hs2
                  go_upto_region 11 with fail
                  cases hn : (x.1.toList == y.1.toList)
                  · rw [hn] at HSt
                    refine wp_region_held_drew (S := fun w' => (w'.cell? ⟨W.heap.size, 2, none⟩ = some (.slice (some ⟨g1, o1, none⟩) r1 z1) ∧ w'.cell? ⟨W.heap.size + 1, 2, none⟩ = some (.slice (some ⟨g2, o2, none⟩) r2 z2)) ∧ (w'.cell? ⟨g1, o1 + k * 2, none⟩ = some (.string x.1) ∧ w'.cell? ⟨g1, o1 + k * 2 + 1, none⟩ = some (.slice AL1 x.2.length cL1)) ∧ (w'.cell? ⟨g2, o2 + k * 2, none⟩ = some (.string y.1) ∧ w'.cell? ⟨g2, o2 + k * 2 + 1, none⟩ = some (.slice AL2 y.2.length cL2))) (by kernel_rfl) K0.out (fun k0 => ?_)
                    refine wpAnyH_take (i := 0) (oi := ⟨some 82, _, _, _, _, _⟩) (v := ?_) rfl (by kernel_rfl) (by kernel_rfl) (by kernel_rfl) (fun _ _ _ h => h) (Or.inl ⟨by rfl, ?_⟩) k0 ?_
                    rotate_left
                    · intro w hSw
                      try dsimp only at hSw
                      go_simp
                      try with_reducible rfl
                    try simp only [Act.put, List.setIfInBounds_toArray, List.set_cons_zero, List.set_cons_succ]
                    refine wpAnyH_take (i := 1) (oi := ⟨some 83, _, _, _, _, _⟩) (v := ?_) rfl (by kernel_rfl) (by kernel_rfl) (by kernel_rfl) (fun _ _ _ h => h) (Or.inl ⟨by rfl, ?_⟩) k0 ?_
                    rotate_left
                    · intro w hSw
                      try dsimp only at hSw
                      go_simp
                      try with_reducible rfl
                    try simp only [Act.put, List.setIfInBounds_toArray, List.set_cons_zero, List.set_cons_succ]
                    refine wpAnyH_take (i := 2) (oi := ⟨some 84, _, _, _, _, _⟩) (v := ?_) rfl (by kernel_rfl) (by kernel_rfl) (by kernel_rfl) (fun _ _ _ h => h) (Or.inl ⟨by rfl, ?_⟩) k0 ?_
                    rotate_left
                    · intro w hSw
                      try dsimp only at hSw
                      go_simp
                      try with_reducible rfl
                    try simp only [Act.put, List.setIfInBounds_toArray, List.set_cons_zero, List.set_cons_succ]
                    refine wpAnyH_take (i := 3) (oi := ⟨some 85, _, _, _, _, _⟩) (v := ?_) rfl (by kernel_rfl) (by kernel_rfl) (by kernel_rfl) (fun _ _ _ h => h) (Or.inl ⟨by rfl, ?_⟩) k0 ?_
                    rotate_left
                    · intro w hSw
                      try dsimp only at hSw
                      go_simp
                      try with_reducible rfl
                    try simp only [Act.put, List.setIfInBounds_toArray, List.set_cons_zero, List.set_cons_succ]
                    refine wpAnyH_take (i := 4) (oi := ⟨some 86, _, _, _, _, _⟩) (v := ?_) rfl (by kernel_rfl) (by kernel_rfl) (by kernel_rfl) (fun _ _ _ h => h) (Or.inl ⟨by rfl, ?_⟩) k0 ?_
                    rotate_left
                    · intro w hSw
                      try dsimp only at hSw
                      go_simp
                      try with_reducible rfl
                    try simp only [Act.put, List.setIfInBounds_toArray, List.set_cons_zero, List.set_cons_succ]
                    refine wpAnyH_take (i := 5) (oi := ⟨some 87, _, _, _, _, _⟩) (v := ?_) rfl (by kernel_rfl) (by kernel_rfl) (by kernel_rfl) (fun _ _ _ h => h) (Or.inl ⟨by rfl, ?_⟩) k0 ?_
                    rotate_left
                    · intro w hSw
                      try dsimp only at hSw
                      go_simp
                      try with_reducible rfl
                    try simp only [Act.put, List.setIfInBounds_toArray, List.set_cons_zero, List.set_cons_succ]
                    refine wpAnyH_take (i := 6) (oi := ⟨some 88, _, _, _, _, _⟩) (v := ?_) rfl (by kernel_rfl) (by kernel_rfl) (by kernel_rfl) (fun _ _ _ h => h) (Or.inl ⟨by rfl, ?_⟩) k0 ?_
                    rotate_left
                    · intro w hSw
                      try dsimp only at hSw
                      go_simp
                      try with_reducible rfl
                    try simp only [Act.put, List.setIfInBounds_toArray, List.set_cons_zero, List.set_cons_succ]
                    refine wpAnyH_take (i := 7) (oi := ⟨some 89, _, _, _, _, _⟩) (v := ?_) rfl (by kernel_rfl) (by kernel_rfl) (by kernel_rfl) (fun _ _ _ h => h) (Or.inl ⟨by rfl, ?_⟩) k0 ?_
                    rotate_left
                    · intro w hSw
                      try dsimp only at hSw
                      go_simp
                      try with_reducible rfl
                    try simp only [Act.put, List.setIfInBounds_toArray, List.set_cons_zero, List.set_cons_succ]
                    refine wpAnyH_take (i := 8) (oi := ⟨some 90, _, _, _, _, _⟩) (v := ?_) rfl (by kernel_rfl) (by kernel_rfl) (by kernel_rfl) (fun _ _ _ h => h) (Or.inl ⟨by rfl, ?_⟩) k0 ?_
                    rotate_left
                    · intro w hSw
                      try dsimp only at hSw
                      go_simp
                      try with_reducible rfl
                    try simp only [Act.put, List.setIfInBounds_toArray, List.set_cons_zero, List.set_cons_succ]
                    refine wpAnyH_take (i := 9) (oi := ⟨some 91, _, _, _, _, _⟩) (v := ?_) rfl (by kernel_rfl) (by kernel_rfl) (by kernel_rfl) (fun _ _ _ h => h) (Or.inl ⟨by rfl, ?_⟩) k0 ?_
                    rotate_left
                    · intro w hSw
                      try dsimp only at hSw
                      go_simp
                      try with_reducible rfl
                    try simp only [Act.put, List.setIfInBounds_toArray, List.set_cons_zero, List.set_cons_succ]
                    refine wpAnyH_take (i := 10) (oi := ⟨some 92, _, _, _, _, _⟩) (v := ?_) rfl (by kernel_rfl) (by kernel_rfl) (by kernel_rfl) (fun _ _ _ h => h) (Or.inl ⟨by rfl, ?_⟩) k0 ?_
                    rotate_left
                    · intro w hSw
                      try dsimp only at hSw
                      go_simp
                      try with_reducible rfl
                    try simp only [Act.put, List.setIfInBounds_toArray, List.set_cons_zero, List.set_cons_succ]
                    refine wpAnyH_take (i := 11) (oi := ⟨some 93, _, _, _, _, _⟩) (v := ?_) rfl (by kernel_rfl) (by kernel_rfl) (by kernel_rfl) (fun _ _ _ h => h) (Or.inl ⟨by rfl, ?_⟩) k0 ?_
                    rotate_left
                    · intro w hSw
                      try dsimp only at hSw
                      go_simp
                      try with_reducible rfl
                    try simp only [Act.put, List.setIfInBounds_toArray, List.set_cons_zero, List.set_cons_succ]
                    refine wpAnyH_take (i := 12) (oi := ⟨some 94, _, _, _, _, _⟩) (v := ?_) rfl (by kernel_rfl) (by kernel_rfl) (by kernel_rfl) (fun _ _ _ h => h) (Or.inl ⟨by rfl, ?_⟩) k0 ?_
                    rotate_left
                    · intro w hSw
                      try dsimp only at hSw
                      go_simp
                      try with_reducible rfl
                    try simp only [Act.put, List.setIfInBounds_toArray, List.set_cons_zero, List.set_cons_succ]
                    refine wpAnyH_take (i := 13) (oi := ⟨some 95, _, _, _, _, _⟩) (v := ?_) rfl (by kernel_rfl) (by kernel_rfl) (by kernel_rfl) (fun _ _ _ h => h) (Or.inl ⟨by rfl, ?_⟩) k0 ?_
                    rotate_left
                    · intro w hSw
                      try dsimp only at hSw
                      go_simp
                      try with_reducible rfl
                    try simp only [Act.put, List.setIfInBounds_toArray, List.set_cons_zero, List.set_cons_succ]
                    refine wpAnyH_take (i := 14) (oi := ⟨some 96, _, _, _, _, _⟩) (v := undef) rfl (by kernel_rfl) (by kernel_rfl) (by kernel_rfl) (fun _ _ _ h => h) (Or.inr ⟨by rfl, rfl⟩) k0 ?_
                    try simp only [Act.put, List.setIfInBounds_toArray, List.set_cons_zero, List.set_cons_succ]
                    refine wpAnyH_take (i := 15) (oi := ⟨some 97, _, _, _, _, _⟩) (v := undef) rfl (by kernel_rfl) (by kernel_rfl) (by kernel_rfl) (fun _ _ _ h => h) (Or.inr ⟨by rfl, rfl⟩) k0 ?_
                    try simp only [Act.put, List.setIfInBounds_toArray, List.set_cons_zero, List.set_cons_succ]
                    refine wpAnyH_take (i := 16) (oi := ⟨some 98, _, _, _, _, _⟩) (v := undef) rfl (by kernel_rfl) (by kernel_rfl) (by kernel_rfl) (fun _ _ _ h => h) (Or.inr ⟨by rfl, rfl⟩) k0 ?_
                    try simp only [Act.put, List.setIfInBounds_toArray, List.set_cons_zero, List.set_cons_succ]
                    refine wpAnyH_take (i := 17) (oi := ⟨some 99, _, _, _, _, _⟩) (v := undef) rfl (by kernel_rfl) (by kernel_rfl) (by kernel_rfl) (fun _ _ _ h => h) (Or.inr ⟨by rfl, rfl⟩) k0 ?_
                    try simp only [Act.put, List.setIfInBounds_toArray, List.set_cons_zero, List.set_cons_succ]
                    refine wpAnyH_take (i := 18) (oi := ⟨some 100, _, _, _, _, _⟩) (v := undef) rfl (by kernel_rfl) (by kernel_rfl) (by kernel_rfl) (fun _ _ _ h => h) (Or.inr ⟨by rfl, rfl⟩) k0 ?_
                    try simp only [Act.put, List.setIfInBounds_toArray, List.set_cons_zero, List.set_cons_succ]
                    refine wpAnyH_take (i := 19) (oi := ⟨some 101, _, _, _, _, _⟩) (v := undef) rfl (by kernel_rfl) (by kernel_rfl) (by kernel_rfl) (fun _ _ _ h => h) (Or.inr ⟨by rfl, rfl⟩) k0 ?_
                    try simp only [Act.put, List.setIfInBounds_toArray, List.set_cons_zero, List.set_cons_succ]
                    refine wpAnyH_take (i := 20) (oi := ⟨some 102, _, _, _, _, _⟩) (v := undef) rfl (by kernel_rfl) (by kernel_rfl) (by kernel_rfl) (fun _ _ _ h => h) (Or.inr ⟨by rfl, rfl⟩) k0 ?_
                    try simp only [Act.put, List.setIfInBounds_toArray, List.set_cons_zero, List.set_cons_succ]
                    refine wpAnyH_take (i := 21) (oi := ⟨some 103, _, _, _, _, _⟩) (v := undef) rfl (by kernel_rfl) (by kernel_rfl) (by kernel_rfl) (fun _ _ _ h => h) (Or.inr ⟨by rfl, rfl⟩) k0 ?_
                    try simp only [Act.put, List.setIfInBounds_toArray, List.set_cons_zero, List.set_cons_succ]
                    refine wpAnyH_take (i := 22) (oi := ⟨some 104, _, _, _, _, _⟩) (v := undef) rfl (by kernel_rfl) (by kernel_rfl) (by kernel_rfl) (fun _ _ _ h => h) (Or.inr ⟨by rfl, rfl⟩) k0 ?_
                    try simp only [Act.put, List.setIfInBounds_toArray, List.set_cons_zero, List.set_cons_succ]
                    refine wpAnyH_take (i := 23) (oi := ⟨some 105, _, _, _, _, _⟩) (v := undef) rfl (by kernel_rfl) (by kernel_rfl) (by kernel_rfl) (fun _ _ _ h => h) (Or.inr ⟨by rfl, rfl⟩) k0 ?_
                    try simp only [Act.put, List.setIfInBounds_toArray, List.set_cons_zero, List.set_cons_succ]
                    refine wpAnyH_take (i := 24) (oi := ⟨some 106, _, _, _, _, _⟩) (v := undef) rfl (by kernel_rfl) (by kernel_rfl) (by kernel_rfl) (fun _ _ _ h => h) (Or.inr ⟨by rfl, rfl⟩) k0 ?_
                    try simp only [Act.put, List.setIfInBounds_toArray, List.set_cons_zero, List.set_cons_succ]
                    refine wpAnyH_take (i := 25) (oi := ⟨some 107, _, _, _, _, _⟩) (v := undef) rfl (by kernel_rfl) (by kernel_rfl) (by kernel_rfl) (fun _ _ _ h => h) (Or.inr ⟨by rfl, rfl⟩) k0 ?_
                    try simp only [Act.put, List.setIfInBounds_toArray, List.set_cons_zero, List.set_cons_succ]
                    refine wpAnyH_take (i := 26) (oi := ⟨some 108, _, _, _, _, _⟩) (v := undef) rfl (by kernel_rfl) (by kernel_rfl) (by kernel_rfl) (fun _ _ _ h => h) (Or.inr ⟨by rfl, rfl⟩) k0 ?_
                    try simp only [Act.put, List.setIfInBounds_toArray, List.set_cons_zero, List.set_cons_succ]
                    refine wpAnyH_take (i := 27) (oi := ⟨some 109, _, _, _, _, _⟩) (v := ?_) rfl (by kernel_rfl) (by kernel_rfl) (by kernel_rfl) (fun _ _ _ h => h) (Or.inl ⟨by rfl, ?_⟩) k0 ?_
                    rotate_left
                    · intro w hSw
                      try dsimp only at hSw
                      go_simp
                      try with_reducible rfl
                    try simp only [Act.put, List.setIfInBounds_toArray, List.set_cons_zero, List.set_cons_succ]
                    refine wpAnyH_take (i := 28) (oi := ⟨some 5, _, _, _, _, _⟩) (v := ?_) rfl (by kernel_rfl) (by kernel_rfl) (by kernel_rfl) (fun _ _ _ h => h) (Or.inl ⟨by rfl, ?_⟩) k0 ?_
                    rotate_left
                    · intro w hSw
                      try dsimp only at hSw
                      go_simp
                      try with_reducible rfl
                    try simp only [Act.put, List.setIfInBounds_toArray, List.set_cons_zero, List.set_cons_succ]
                    refine wpAnyH_done (by kernel_rfl) ?_ _
                    go_wp2_with fail
                    go_roundw
                    case rel => exact ⟨k + 1, _, rfl, by go_num, hlt, Lib.hid fun _ => HS2.out, Lib.hid (by rw [← HEq.out, HSt.out]; simp), HD.out⟩
                    case measure => simp [RowKit.intOf]; omega
                  · rw [hn] at HSt
                    go_region_held3 (fun w' => (w'.cell? ⟨W.heap.size, 2, none⟩ = some (.slice (some ⟨g1, o1, none⟩) r1 z1) ∧ w'.cell? ⟨W.heap.size + 1, 2, none⟩ = some (.slice (some ⟨g2, o2, none⟩) r2 z2)) ∧ (w'.cell? ⟨g1, o1 + k * 2, none⟩ = some (.string x.1) ∧ w'.cell? ⟨g1, o1 + k * 2 + 1, none⟩ = some (.slice AL1 x.2.length cL1)) ∧ (w'.cell? ⟨g2, o2 + k * 2, none⟩ = some (.string y.1) ∧ w'.cell? ⟨g2, o2 + k * 2 + 1, none⟩ = some (.slice AL2 y.2.length cL2)))
                      (first | (with_reducible exact K0.out) | (with_reducible exact K1.out))
                      (first
                      | (go_at_call 25; have HX := HCs.out _ HD.out; (with_reducible refine HX.mono ?_); clear HX; rintro e w9 ⟨rfl, hb⟩; have HD9 := Lib.hid (thru HD.out hb); have K1 := Lib.hid (HSP.out _ HD9.out); clear hb))
                    all_goals go_wp2_with fail
                    all_goals go_roundw
                    case rel => exact ⟨k + 1, _, rfl, by go_num, hlt, Lib.hid fun _ => HS2.out, Lib.hid (by rw [← HEq.out, HSt.out]; simp), HD9.out⟩
                    case measure => simp [RowKit.intOf]; omega
                · have he : k = r1 := by omega
                  subst he
                  have HT : Hid (b2 = true) := Lib.hid (by rw [← HEq.out, List.drop_eq_nil_of_le (by rw [HNR1.out]; exact Nat.le_refl _), List.drop_eq_nil_of_le (by rw [HNR2.out, ← HL2.out.2.2]; exact Nat.le_refl _)]; rfl)
                  go_wp2_with fail
                  go_meet
                  exact ⟨by rw [HT.out], HBw.out⟩
          case rest =>
            obtain ⟨rfl, hwc⟩ := hcut
            clear C0
            have C0 := Lib.hid hwc
            clear hwc
            have HBc : Hid (b2 = true → b0 = true) := Lib.hid (fun e => by rw [HB2.out, Bool.and_eq_true] at e; exact HBb.out e.1)
            obtain ⟨b3, hb3⟩ : ∃ b, b = (b2 && sameF sameEn p.enums q.enums) := ⟨_, rfl⟩
            have HB3 := Lib.hid hb3
            clear hb3
            go_upto_block 4 with fail
            go_cut [5] (fun t5 wx => t5 = .bool b3 ∧ Below W0.heap.size W0 wx)
            case first =>
              go_wp2_with fail
              go_loopw [5, 8] (fun s i wr => ∃ (k : Nat) (sb : Bool), s = .bool sb ∧ i = .int .i64 (k : Int) ∧ k ≤ m1 ∧ Hid (sb = true → b0 = true) ∧ Hid ((sb && sameF sameEn (p.enums.drop k) (q.enums.drop k)) = b3) ∧ Below W0.heap.size W0 wr) (fun _ i _ => m1 - (RowKit.intOf i).toNat)
              case atStart => exact ⟨0, b2, rfl, rfl, Nat.zero_le _, HBc, Lib.hid HB3.out.symm, C0.out⟩
              case round =>
                obtain ⟨k, sb, rfl, rfl, hk, HS, HEq, hbw⟩ := hrel
                have HBw := Lib.hid hbw
                clear hbw
                cases sb
                · go_wp2_with fail
                  go_meet
                  exact ⟨by rw [← HEq.out]; rfl, HBw.out⟩
                · have HS2 := Lib.hid (HS.out rfl)
                  have HL2 := Lib.hid (HL.out HS2.out)
                  clear HS
                  obtain ⟨⟨x0, x1, x2, x3⟩, y0, y1, y2, y3⟩ := HSB.out _ HBw.out
                  by_cases hlt : k < m1
                  · have hlt2 : k < m2 := by have := HL2.out.1; omega
                    obtain ⟨x, hx⟩ : ∃ x, p.enums[k]? = some x := ⟨p.enums[k]'(by rw [HNE1.out]; exact hlt), List.getElem?_eq_getElem _⟩
                    obtain ⟨y, hy⟩ : ∃ y, q.enums[k]? = some y := ⟨q.enums[k]'(by rw [HNE2.out]; exact hlt2), List.getElem?_eq_getElem _⟩
                    obtain ⟨g1, o1, L1, rfl, hg1, ha1, hs1⟩ := HAE1.out k x hx
                    obtain ⟨g2, o2, L2, rfl, hg2, ha2, hs2⟩ := HAE2.out k y hy
                    obtain ⟨AL1, cL1, rfl, hcl1, hll1, hat1⟩ := hs1
                    obtain ⟨AL2, cL2, rfl, hcl2, hll2, hat2⟩ := hs2
                    have HT1 := Lib.hid hat1
                    have HT2 := Lib.hid hat2
                    have hlz1 : x.2.length ≤ 140737488355328 := by omega
                    have hlz2 : y.2.length ≤ 140737488355328 := by omega
                    obtain ⟨l1, hl1⟩ : ∃ l, x.2.length = l := ⟨_, rfl⟩
                    obtain ⟨l2, hl2⟩ : ∃ l, y.2.length = l := ⟨_, rfl⟩
                    have HLl1 := Lib.hid hl1
                    have HLl2 := Lib.hid hl2
                    rw [hl1] at ha1 hlz1 hcl1
                    rw [hl2] at ha2 hlz2 hcl2
                    clear hat1 hat2 hll1 hll2 hl1 hl2
                    have HSE : Hid (∀ w', Below W0.heap.size W0 w' → (w'.cell? ⟨W.heap.size, 0, none⟩ = some (.slice (some ⟨g1, o1, none⟩) m1 e1) ∧ w'.cell? ⟨W.heap.size + 1, 0, none⟩ = some (.slice (some ⟨g2, o2, none⟩) m2 e2)) ∧ (w'.cell? ⟨g1, o1 + k * 2, none⟩ = some (.string x.1) ∧ w'.cell? ⟨g1, o1 + k * 2 + 1, none⟩ = some (.slice AL1 l1 cL1)) ∧ (w'.cell? ⟨g2, o2 + k * 2, none⟩ = some (.string y.1) ∧ w'.cell? ⟨g2, o2 + k * 2 + 1, none⟩ = some (.slice AL2 l2 cL2))) := Lib.hid fun w' hb => ⟨⟨(HSB.out w' hb).1.1, (HSB.out w' hb).2.1⟩, keep2 ha1 ((thru B0.out hb).block g1 hg1), keep2 ha2 ((thru B0.out hb).block g2 hg2)⟩
                    have K0 := Lib.hid (HSE.out _ (thru HBw.out (Below.refl _ _).drew))
                    obtain ⟨sx, hsx⟩ : ∃ s, s = sameEn x y := ⟨_, rfl⟩
                    obtain ⟨st, hst⟩ : ∃ s, s = ((x.1.toList == y.1.toList) && decide (l1 = l2)) := ⟨_, rfl⟩
                    have HSt : Hid (sameF sameEn (p.enums.drop k) (q.enums.drop k) = (sx && sameF sameEn (p.enums.drop (k + 1)) (q.enums.drop (k + 1)))) := Lib.hid ((sameF_at _ hx hy).trans (by rw [hsx]))
                    have HSx : Hid (sx = (st && sameF sameSt x.2 y.2)) := Lib.hid (by
                      rw [hsx, hst]
                      unfold sameEn
                      by_cases e : l1 = l2
                      · simp [e]
                      · rw [sameF_len _ (fun h => e (by rw [← HLl1.out, ← HLl2.out]; exact h))]; simp)
                    have HST := Lib.hid hst
                    have HD : Hid (Below W0.heap.size W0 wr.drew) := Lib.hid (thru HBw.out (Below.refl _ _).drew)
                    clear ha1 ha2 hx hy hsx hst
                    go_upto_region 15 with fail
                    go_cut [5] (fun t5 wx => t5 = .bool st ∧ Below W0.heap.size W0 wx)
                    case first =>
                      cases hn : (x.1.toList == y.1.toList)
                      · have HST2 : Hid (st = false) := Lib.hid (by rw [HST.out, hn]; rfl)
                        refine wp_region_held_drew (S := fun w' => (w'.cell? ⟨W.heap.size, 0, none⟩ = some (.slice (some ⟨g1, o1, none⟩) m1 e1) ∧ w'.cell? ⟨W.heap.size + 1, 0, none⟩ = some (.slice (some ⟨g2, o2, none⟩) m2 e2)) ∧ (w'.cell? ⟨g1, o1 + k * 2, none⟩ = some (.string x.1) ∧ w'.cell? ⟨g1, o1 + k * 2 + 1, none⟩ = some (.slice AL1 l1 cL1)) ∧ (w'.cell? ⟨g2, o2 + k * 2, none⟩ = some (.string y.1) ∧ w'.cell? ⟨g2, o2 + k * 2 + 1, none⟩ = some (.slice AL2 l2 cL2))) (by kernel_rfl) K0.out (fun k0 => ?_)
                        refine wpAnyH_take (i := 0) (oi := ⟨some 120, _, _, _, _, _⟩) (v := ?_) rfl (by kernel_rfl) (by kernel_rfl) (by kernel_rfl) (fun _ _ _ h => h) (Or.inl ⟨by rfl, ?_⟩) k0 ?_
                        rotate_left
                        · intro w hSw
                          try dsimp only at hSw
                          go_simp
                          try with_reducible rfl
                        try simp only [Act.put, List.setIfInBounds_toArray, List.set_cons_zero, List.set_cons_succ]
                        refine wpAnyH_take (i := 1) (oi := ⟨some 121, _, _, _, _, _⟩) (v := ?_) rfl (by kernel_rfl) (by kernel_rfl) (by kernel_rfl) (fun _ _ _ h => h) (Or.inl ⟨by rfl, ?_⟩) k0 ?_
                        rotate_left
                        · intro w hSw
                          try dsimp only at hSw
                          go_simp
                          try with_reducible rfl
                        try simp only [Act.put, List.setIfInBounds_toArray, List.set_cons_zero, List.set_cons_succ]
                        refine wpAnyH_take (i := 2) (oi := ⟨some 122, _, _, _, _, _⟩) (v := ?_) rfl (by kernel_rfl) (by kernel_rfl) (by kernel_rfl) (fun _ _ _ h => h) (Or.inl ⟨by rfl, ?_⟩) k0 ?_
                        rotate_left
                        · intro w hSw
                          try dsimp only at hSw
                          go_simp
                          try with_reducible rfl
                        try simp only [Act.put, List.setIfInBounds_toArray, List.set_cons_zero, List.set_cons_succ]
                        refine wpAnyH_take (i := 3) (oi := ⟨some 123, _, _, _, _, _⟩) (v := ?_) rfl (by kernel_rfl) (by kernel_rfl) (by kernel_rfl) (fun _ _ _ h => h) (Or.inl ⟨by rfl, ?_⟩) k0 ?_
                        rotate_left
                        · intro w hSw
                          try dsimp only at hSw
                          go_simp
                          try with_reducible rfl
                        try simp only [Act.put, List.setIfInBounds_toArray, List.set_cons_zero, List.set_cons_succ]
                        refine wpAnyH_take (i := 4) (oi := ⟨some 124, _, _, _, _, _⟩) (v := ?_) rfl (by kernel_rfl) (by kernel_rfl) (by kernel_rfl) (fun _ _ _ h => h) (Or.inl ⟨by rfl, ?_⟩) k0 ?_
                        rotate_left
                        · intro w hSw
                          try dsimp only at hSw
                          go_simp
                          try with_reducible rfl
                        try simp only [Act.put, List.setIfInBounds_toArray, List.set_cons_zero, List.set_cons_succ]
                        refine wpAnyH_take (i := 5) (oi := ⟨some 125, _, _, _, _, _⟩) (v := ?_) rfl (by kernel_rfl) (by kernel_rfl) (by kernel_rfl) (fun _ _ _ h => h) (Or.inl ⟨by rfl, ?_⟩) k0 ?_
                        rotate_left
                        · intro w hSw
                          try dsimp only at hSw
                          go_simp
                          try with_reducible rfl
                        try simp only [Act.put, List.setIfInBounds_toArray, List.set_cons_zero, List.set_cons_succ]
                        refine wpAnyH_take (i := 6) (oi := ⟨some 126, _, _, _, _, _⟩) (v := ?_) rfl (by kernel_rfl) (by kernel_rfl) (by kernel_rfl) (fun _ _ _ h => h) (Or.inl ⟨by rfl, ?_⟩) k0 ?_
                        rotate_left
                        · intro w hSw
                          try dsimp only at hSw
                          go_simp
                          try with_reducible rfl
                        try simp only [Act.put, List.setIfInBounds_toArray, List.set_cons_zero, List.set_cons_succ]
                        refine wpAnyH_take (i := 7) (oi := ⟨some 127, _, _, _, _, _⟩) (v := ?_) rfl (by kernel_rfl) (by kernel_rfl) (by kernel_rfl) (fun _ _ _ h => h) (Or.inl ⟨by rfl, ?_⟩) k0 ?_
                        rotate_left
                        · intro w hSw
                          try dsimp only at hSw
                          go_simp
                          try with_reducible rfl
                        try simp only [Act.put, List.setIfInBounds_toArray, List.set_cons_zero, List.set_cons_succ]
                        refine wpAnyH_take (i := 8) (oi := ⟨some 128, _, _, _, _, _⟩) (v := ?_) rfl (by kernel_rfl) (by kernel_rfl) (by kernel_rfl) (fun _ _ _ h => h) (Or.inl ⟨by rfl, ?_⟩) k0 ?_
                        rotate_left
                        · intro w hSw
                          try dsimp only at hSw
                          go_simp
                          try with_reducible rfl
                        try simp only [Act.put, List.setIfInBounds_toArray, List.set_cons_zero, List.set_cons_succ]
                        refine wpAnyH_take (i := 9) (oi := ⟨some 129, _, _, _, _, _⟩) (v := ?_) rfl (by kernel_rfl) (by kernel_rfl) (by kernel_rfl) (fun _ _ _ h => h) (Or.inl ⟨by rfl, ?_⟩) k0 ?_
                        rotate_left
                        · intro w hSw
                          try dsimp only at hSw
                          go_simp
                          try with_reducible rfl
                        try simp only [Act.put, List.setIfInBounds_toArray, List.set_cons_zero, List.set_cons_succ]
                        refine wpAnyH_take (i := 10) (oi := ⟨some 130, _, _, _, _, _⟩) (v := ?_) rfl (by kernel_rfl) (by kernel_rfl) (by kernel_rfl) (fun _ _ _ h => h) (Or.inl ⟨by rfl, ?_⟩) k0 ?_
                        rotate_left
                        · intro w hSw
                          try dsimp only at hSw
                          go_simp
                          try with_reducible rfl
                        try simp only [Act.put, List.setIfInBounds_toArray, List.set_cons_zero, List.set_cons_succ]
                        refine wpAnyH_take (i := 11) (oi := ⟨some 131, _, _, _, _, _⟩) (v := ?_) rfl (by kernel_rfl) (by kernel_rfl) (by kernel_rfl) (fun _ _ _ h => h) (Or.inl ⟨by rfl, ?_⟩) k0 ?_
                        rotate_left
                        · intro w hSw
                          try dsimp only at hSw
                          go_simp
                          try with_reducible rfl
                        try simp only [Act.put, List.setIfInBounds_toArray, List.set_cons_zero, List.set_cons_succ]
                        refine wpAnyH_take (i := 12) (oi := ⟨some 132, _, _, _, _, _⟩) (v := ?_) rfl (by kernel_rfl) (by kernel_rfl) (by kernel_rfl) (fun _ _ _ h => h) (Or.inl ⟨by rfl, ?_⟩) k0 ?_
                        rotate_left
                        · intro w hSw
                          try dsimp only at hSw
                          go_simp
                          try with_reducible rfl
                        try simp only [Act.put, List.setIfInBounds_toArray, List.set_cons_zero, List.set_cons_succ]
                        refine wpAnyH_take (i := 13) (oi := ⟨some 133, _, _, _, _, _⟩) (v := ?_) rfl (by kernel_rfl) (by kernel_rfl) (by kernel_rfl) (fun _ _ _ h => h) (Or.inl ⟨by rfl, ?_⟩) k0 ?_
                        rotate_left
                        · intro w hSw
                          try dsimp only at hSw
                          go_simp
                          try with_reducible rfl
                        try simp only [Act.put, List.setIfInBounds_toArray, List.set_cons_zero, List.set_cons_succ]
                        refine wpAnyH_take (i := 14) (oi := ⟨some 134, _, _, _, _, _⟩) (v := undef) rfl (by kernel_rfl) (by kernel_rfl) (by kernel_rfl) (fun _ _ _ h => h) (Or.inr ⟨by rfl, rfl⟩) k0 ?_
                        try simp only [Act.put, List.setIfInBounds_toArray, List.set_cons_zero, List.set_cons_succ]
                        refine wpAnyH_take (i := 15) (oi := ⟨some 135, _, _, _, _, _⟩) (v := undef) rfl (by kernel_rfl) (by kernel_rfl) (by kernel_rfl) (fun _ _ _ h => h) (Or.inr ⟨by rfl, rfl⟩) k0 ?_
                        try simp only [Act.put, List.setIfInBounds_toArray, List.set_cons_zero, List.set_cons_succ]
                        refine wpAnyH_take (i := 16) (oi := ⟨some 136, _, _, _, _, _⟩) (v := undef) rfl (by kernel_rfl) (by kernel_rfl) (by kernel_rfl) (fun _ _ _ h => h) (Or.inr ⟨by rfl, rfl⟩) k0 ?_
                        try simp only [Act.put, List.setIfInBounds_toArray, List.set_cons_zero, List.set_cons_succ]
                        refine wpAnyH_take (i := 17) (oi := ⟨some 137, _, _, _, _, _⟩) (v := undef) rfl (by kernel_rfl) (by kernel_rfl) (by kernel_rfl) (fun _ _ _ h => h) (Or.inr ⟨by rfl, rfl⟩) k0 ?_
                        try simp only [Act.put, List.setIfInBounds_toArray, List.set_cons_zero, List.set_cons_succ]
                        refine wpAnyH_take (i := 18) (oi := ⟨some 138, _, _, _, _, _⟩) (v := undef) rfl (by kernel_rfl) (by kernel_rfl) (by kernel_rfl) (fun _ _ _ h => h) (Or.inr ⟨by rfl, rfl⟩) k0 ?_
                        try simp only [Act.put, List.setIfInBounds_toArray, List.set_cons_zero, List.set_cons_succ]
                        refine wpAnyH_take (i := 19) (oi := ⟨some 139, _, _, _, _, _⟩) (v := undef) rfl (by kernel_rfl) (by kernel_rfl) (by kernel_rfl) (fun _ _ _ h => h) (Or.inr ⟨by rfl, rfl⟩) k0 ?_
                        try simp only [Act.put, List.setIfInBounds_toArray, List.set_cons_zero, List.set_cons_succ]
                        refine wpAnyH_take (i := 20) (oi := ⟨some 140, _, _, _, _, _⟩) (v := undef) rfl (by kernel_rfl) (by kernel_rfl) (by kernel_rfl) (fun _ _ _ h => h) (Or.inr ⟨by rfl, rfl⟩) k0 ?_
                        try simp only [Act.put, List.setIfInBounds_toArray, List.set_cons_zero, List.set_cons_succ]
                        refine wpAnyH_take (i := 21) (oi := ⟨some 141, _, _, _, _, _⟩) (v := undef) rfl (by kernel_rfl) (by kernel_rfl) (by kernel_rfl) (fun _ _ _ h => h) (Or.inr ⟨by rfl, rfl⟩) k0 ?_
                        try simp only [Act.put, List.setIfInBounds_toArray, List.set_cons_zero, List.set_cons_succ]
                        refine wpAnyH_take (i := 22) (oi := ⟨some 142, _, _, _, _, _⟩) (v := undef) rfl (by kernel_rfl) (by kernel_rfl) (by kernel_rfl) (fun _ _ _ h => h) (Or.inr ⟨by rfl, rfl⟩) k0 ?_
                        try simp only [Act.put, List.setIfInBounds_toArray, List.set_cons_zero, List.set_cons_succ]
                        refine wpAnyH_take (i := 23) (oi := ⟨some 143, _, _, _, _, _⟩) (v := undef) rfl (by kernel_rfl) (by kernel_rfl) (by kernel_rfl) (fun _ _ _ h => h) (Or.inr ⟨by rfl, rfl⟩) k0 ?_
                        try simp only [Act.put, List.setIfInBounds_toArray, List.set_cons_zero, List.set_cons_succ]
                        refine wpAnyH_take (i := 24) (oi := ⟨some 144, _, _, _, _, _⟩) (v := undef) rfl (by kernel_rfl) (by kernel_rfl) (by kernel_rfl) (fun _ _ _ h => h) (Or.inr ⟨by rfl, rfl⟩) k0 ?_
                        try simp only [Act.put, List.setIfInBounds_toArray, List.set_cons_zero, List.set_cons_succ]
                        refine wpAnyH_take (i := 25) (oi := ⟨some 145, _, _, _, _, _⟩) (v := undef) rfl (by kernel_rfl) (by kernel_rfl) (by kernel_rfl) (fun _ _ _ h => h) (Or.inr ⟨by rfl, rfl⟩) k0 ?_
                        try simp only [Act.put, List.setIfInBounds_toArray, List.set_cons_zero, List.set_cons_succ]
                        refine wpAnyH_take (i := 26) (oi := ⟨some 146, _, _, _, _, _⟩) (v := undef) rfl (by kernel_rfl) (by kernel_rfl) (by kernel_rfl) (fun _ _ _ h => h) (Or.inr ⟨by rfl, rfl⟩) k0 ?_
                        try simp only [Act.put, List.setIfInBounds_toArray, List.set_cons_zero, List.set_cons_succ]
                        refine wpAnyH_take (i := 27) (oi := ⟨some 147, _, _, _, _, _⟩) (v := undef) rfl (by kernel_rfl) (by kernel_rfl) (by kernel_rfl) (fun _ _ _ h => h) (Or.inr ⟨by rfl, rfl⟩) k0 ?_
                        try simp only [Act.put, List.setIfInBounds_toArray, List.set_cons_zero, List.set_cons_succ]
                        refine wpAnyH_take (i := 28) (oi := ⟨some 148, _, _, _, _, _⟩) (v := undef) rfl (by kernel_rfl) (by kernel_rfl) (by kernel_rfl) (fun _ _ _ h => h) (Or.inr ⟨by rfl, rfl⟩) k0 ?_
                        try simp only [Act.put, List.setIfInBounds_toArray, List.set_cons_zero, List.set_cons_succ]
                        refine wpAnyH_take (i := 29) (oi := ⟨some 149, _, _, _, _, _⟩) (v := ?_) rfl (by kernel_rfl) (by kernel_rfl) (by kernel_rfl) (fun _ _ _ h => h) (Or.inl ⟨by rfl, ?_⟩) k0 ?_
                        rotate_left
                        · intro w hSw
                          try dsimp only at hSw
                          go_simp
                          try with_reducible rfl
                        try simp only [Act.put, List.setIfInBounds_toArray, List.set_cons_zero, List.set_cons_succ]
                        refine wpAnyH_take (i := 30) (oi := ⟨some 5, _, _, _, _, _⟩) (v := ?_) rfl (by kernel_rfl) (by kernel_rfl) (by kernel_rfl) (fun _ _ _ h => h) (Or.inl ⟨by rfl, ?_⟩) k0 ?_
                        rotate_left
                        · intro w hSw
                          try dsimp only at hSw
                          go_simp
                          try with_reducible rfl
                        try simp only [Act.put, List.setIfInBounds_toArray, List.set_cons_zero, List.set_cons_succ]
                        refine wpAnyH_done (by kernel_rfl) ?_ _
                        go_wp2_with fail
                        go_meet
                        exact ⟨by rw [HST2.out], HD.out⟩
                      · by_cases hle : l1 = l2
                        · have hleb : ((l1 : Int) == (l2 : Int)) = true := by simp [hle]
                          have HST2 : Hid (st = true) := Lib.hid (by rw [HST.out, hn]; simp [hle])
                          clear hle
                          go_region_held3 (fun w' => (w'.cell? ⟨W.heap.size, 0, none⟩ = some (.slice (some ⟨g1, o1, none⟩) m1 e1) ∧ w'.cell? ⟨W.heap.size + 1, 0, none⟩ = some (.slice (some ⟨g2, o2, none⟩) m2 e2)) ∧ (w'.cell? ⟨g1, o1 + k * 2, none⟩ = some (.string x.1) ∧ w'.cell? ⟨g1, o1 + k * 2 + 1, none⟩ = some (.slice AL1 l1 cL1)) ∧ (w'.cell? ⟨g2, o2 + k * 2, none⟩ = some (.string y.1) ∧ w'.cell? ⟨g2, o2 + k * 2 + 1, none⟩ = some (.slice AL2 l2 cL2))) (first | (with_reducible exact K0.out)) (first | (fail))
                          all_goals go_wp2_with fail
                          all_goals go_meet
                          all_goals exact ⟨by rw [HST2.out], HD.out⟩
                        · have hleb : ((l1 : Int) == (l2 : Int)) = false := by simp; omega
                          have HST2 : Hid (st = false) := Lib.hid (by rw [HST.out, hn]; simp [hle])
                          clear hle
                          go_region_held3 (fun w' => (w'.cell? ⟨W.heap.size, 0, none⟩ = some (.slice (some ⟨g1, o1, none⟩) m1 e1) ∧ w'.cell? ⟨W.heap.size + 1, 0, none⟩ = some (.slice (some ⟨g2, o2, none⟩) m2 e2)) ∧ (w'.cell? ⟨g1, o1 + k * 2, none⟩ = some (.string x.1) ∧ w'.cell? ⟨g1, o1 + k * 2 + 1, none⟩ = some (.slice AL1 l1 cL1)) ∧ (w'.cell? ⟨g2, o2 + k * 2, none⟩ = some (.string y.1) ∧ w'.cell? ⟨g2, o2 + k * 2 + 1, none⟩ = some (.slice AL2 l2 cL2))) (first | (with_reducible exact K0.out)) (first | (fail))
                          all_goals go_wp2_with fail
                          all_goals go_meet
                          all_goals exact ⟨by rw [HST2.out], HD.out⟩
                    case rest =>
                      obtain ⟨rfl, hwc⟩ := hcut
                      have D0 := Lib.hid hwc
                      clear hwc K0 HD x0 x1 x2 x3 y0 y1 y2 y3
                      have HLe : Hid (st = true → l1 = l2) := Lib.hid (by rw [HST.out]; intro e; simp only [Bool.and_eq_true, decide_eq_true_eq] at e; exact e.2)
                      go_wp2_with fail
                      go_loopw [5, 9] (fun s i wr => ∃ (j : Nat) (sb : Bool), s = .bool sb ∧ i = .int .i64 (j : Int) ∧ j ≤ l1 ∧ Hid (sb = true → st = true) ∧ Hid ((sb && sameF sameSt (x.2.drop j) (y.2.drop j)) = sx) ∧ Below W0.heap.size W0 wr) (fun _ i _ => l1 - (RowKit.intOf i).toNat)
                      case atStart => exact ⟨0, st, rfl, rfl, Nat.zero_le _, Lib.hid id, Lib.hid HSx.out.symm, D0.out⟩
                      case round =>
                        obtain ⟨j, sc, rfl, rfl, hj, HSc, HEj, hbj⟩ := hrel
                        have HBj := Lib.hid hbj
                        clear hbj
                        obtain ⟨⟨x0, y0⟩, ⟨u0, u1⟩, t0, t1⟩ := HSE.out _ HBj.out
                        cases sc
                        · have HF : Hid (sx = false) := Lib.hid (by rw [← HEj.out]; rfl)
                          go_wp2_with fail
                          go_roundw
                          case rel => exact ⟨k + 1, false, rfl, by go_num, hlt, Lib.hid (fun e => by cases e), Lib.hid (by rw [← HEq.out, HSt.out, HF.out]; simp), HBj.out⟩
                          case measure => simp [RowKit.intOf]; omega
                        · have HScT := Lib.hid (HSc.out rfl)
                          have HSc2 := Lib.hid (HLe.out HScT.out)
                          clear HSc
                          by_cases hjl : j < l1
                          · have hjl2 : j < l2 := by have := HSc2.out; omega
                            obtain ⟨s, hsj⟩ : ∃ s, x.2[j]? = some s := ⟨x.2[j]'(by rw [HLl1.out]; exact hjl), List.getElem?_eq_getElem _⟩
                            obtain ⟨t, htj⟩ : ∃ t, y.2[j]? = some t := ⟨y.2[j]'(by rw [HLl2.out]; exact hjl2), List.getElem?_eq_getElem _⟩
                            obtain ⟨g3, o3, rfl, hg3, hc3⟩ := HT1.out j s hsj
                            obtain ⟨g4, o4, rfl, hg4, hc4⟩ := HT2.out j t htj
                            have HSF : Hid (∀ w', Below W0.heap.size W0 w' → (w'.cell? ⟨W.heap.size, 0, none⟩ = some (.slice (some ⟨g1, o1, none⟩) m1 e1) ∧ w'.cell? ⟨W.heap.size + 1, 0, none⟩ = some (.slice (some ⟨g2, o2, none⟩) m2 e2)) ∧ (w'.cell? ⟨g1, o1 + k * 2, none⟩ = some (.string x.1) ∧ w'.cell? ⟨g1, o1 + k * 2 + 1, none⟩ = some (.slice (some ⟨g3, o3, none⟩) l1 cL1)) ∧ (w'.cell? ⟨g2, o2 + k * 2, none⟩ = some (.string y.1) ∧ w'.cell? ⟨g2, o2 + k * 2 + 1, none⟩ = some (.slice (some ⟨g4, o4, none⟩) l2 cL2)) ∧ w'.cell? ⟨g3, o3 + j, none⟩ = some (.string s) ∧ w'.cell? ⟨g4, o4 + j, none⟩ = some (.string t)) := Lib.hid fun w' hb => ⟨(HSE.out w' hb).1, (HSE.out w' hb).2.1, (HSE.out w' hb).2.2, (World.cell?_of_block (a := ⟨g3, o3 + j, none⟩) ((thru B0.out hb).block g3 hg3)).trans hc3, (World.cell?_of_block (a := ⟨g4, o4 + j, none⟩) ((thru B0.out hb).block g4 hg4)).trans hc4⟩
                            have K1 := Lib.hid (HSF.out _ (thru HBj.out (Below.refl _ _).drew))
                            have HSj : Hid (sameF sameSt (x.2.drop j) (y.2.drop j) = ((s.toList == t.toList) && sameF sameSt (x.2.drop (j + 1)) (y.2.drop (j + 1)))) := Lib.hid (sameF_at _ hsj htj)
                            have HDj : Hid (Below W0.heap.size W0 wr.drew) := Lib.hid (thru HBj.out (Below.refl _ _).drew)
                            clear hc3 hc4 hsj htj
                            go_upto_region 19 with fail
                            go_region_held3 (fun w' => (w'.cell? ⟨W.heap.size, 0, none⟩ = some (.slice (some ⟨g1, o1, none⟩) m1 e1) ∧ w'.cell? ⟨W.heap.size + 1, 0, none⟩ = some (.slice (some ⟨g2, o2, none⟩) m2 e2)) ∧ (w'.cell? ⟨g1, o1 + k * 2, none⟩ = some (.string x.1) ∧ w'.cell? ⟨g1, o1 + k * 2 + 1, none⟩ = some (.slice (some ⟨g3, o3, none⟩) l1 cL1)) ∧ (w'.cell? ⟨g2, o2 + k * 2, none⟩ = some (.string y.1) ∧ w'.cell? ⟨g2, o2 + k * 2 + 1, none⟩ = some (.slice (some ⟨g4, o4, none⟩) l2 cL2)) ∧ w'.cell? ⟨g3, o3 + j, none⟩ = some (.string s) ∧ w'.cell? ⟨g4, o4 + j, none⟩ = some (.string t)) (first | (with_reducible exact K1.out)) (first | (fail))
                            all_goals go_wp2_with fail
                            all_goals go_roundw
                            case rel => exact ⟨j + 1, _, rfl, by go_num, hjl, Lib.hid (fun _ => HScT.out), Lib.hid (by rw [← HEj.out, HSj.out]; simp), HDj.out⟩
                            case measure => simp [RowKit.intOf]; omega
                          · have he : j = l1 := by omega
                            subst he
                            have HTj : Hid (sx = true) := Lib.hid (by rw [← HEj.out, List.drop_eq_nil_of_le (by rw [HLl1.out]; exact Nat.le_refl _), List.drop_eq_nil_of_le (by rw [HLl2.out, ← HSc2.out]; exact Nat.le_refl _)]; rfl)
                            go_wp2_with fail
                            go_roundw
                            case rel => exact ⟨k + 1, true, rfl, by go_num, hlt, Lib.hid (fun _ => HS2.out), Lib.hid (by rw [← HEq.out, HSt.out, HTj.out]; simp), HBj.out⟩
                            case measure => simp [RowKit.intOf]; omega
                  · have he : k = m1 := by omega
                    subst he
                    have HT : Hid (b3 = true) := Lib.hid (by rw [← HEq.out, List.drop_eq_nil_of_le (by rw [HNE1.out]; exact Nat.le_refl _), List.drop_eq_nil_of_le (by rw [HNE2.out, ← HL2.out.1]; exact Nat.le_refl _)]; rfl)
                    go_wp2_with fail
                    go_meet
                    exact ⟨by rw [HT.out], HBw.out⟩
            case rest =>
              obtain ⟨rfl, hwc⟩ := hcut
              clear C0
              have HF : Hid (b3 = samePg p q) := Lib.hid (by
                rw [HB3.out, HB2.out, HB1.out, HB.out, HSM.out]
                unfold samePg
                by_cases l1 : m1 = m2
                · by_cases l2 : n1 = n2
                  · by_cases l3 : r1 = r2
                    · simp only [l1, l2, l3, decide_true, Bool.and_true]
                      cases sameB p.main q.main <;> cases sameF sameVr p.vars q.vars <;> cases sameF samePr p.procs q.procs <;> cases sameF sameEn p.enums q.enums <;> rfl
                    · rw [sameF_len samePr (l := p.procs) (r := q.procs) (fun h => l3 (by rw [← HNR1.out, ← HNR2.out]; exact h))]
                      simp
                  · rw [sameF_len sameVr (l := p.vars) (r := q.vars) (fun h => l2 (by rw [← HNV1.out, ← HNV2.out]; exact h))]
                    simp
                · rw [sameF_len sameEn (l := p.enums) (r := q.enums) (fun h => l1 (by rw [← HNE1.out, ← HNE2.out]; exact h))]
                  simp)
              have CD : Hid (Below W0.heap.size W0 wc.drew) := Lib.hid (thru hwc (Below.refl _ _).drew)
              clear hwc
              have S0 := Lib.hid (HSB.out _ CD.out)
              have HXp : Hid (∀ w', Below W0.heap.size W0 w' → Calls Tryd.prog 17 #[pgV (.slice E1 m1 e1) (.slice V1 n1 v1) (.slice R1 r1 z1) (.slice M1 p.main.length d1)] w' (RetPg n p w')) := Lib.hid fun w' hb => prog_any n p _ _ _ _ w' ((HPg1.out.below (thru B0.out hb) (fun b h => h)).wide (lo_up (fun b h => h) (thru B0.out hb).size))
              have HXq : Hid (∀ w', Below W0.heap.size W0 w' → Calls Tryd.prog 17 #[pgV (.slice E2 m2 e2) (.slice V2 n2 v2) (.slice R2 r2 z2) (.slice M2 q.main.length d2)] w' (RetPg n q w')) := Lib.hid fun w' hb => prog_any n q _ _ _ _ w' ((HPg2.out.below (thru B0.out hb) (fun b h => h)).wide (lo_up (fun b h => h) (thru B0.out hb).size))
              go_wp2_with fail
              go_region_held3 (fun w' => (w'.cell? ⟨W.heap.size, 0, none⟩ = some (.slice E1 m1 e1) ∧ w'.cell? ⟨W.heap.size, 1, none⟩ = some (.slice V1 n1 v1) ∧ w'.cell? ⟨W.heap.size, 2, none⟩ = some (.slice R1 r1 z1) ∧ w'.cell? ⟨W.heap.size, 3, none⟩ = some (.slice M1 p.main.length d1)) ∧ w'.cell? ⟨W.heap.size + 1, 0, none⟩ = some (.slice E2 m2 e2) ∧ w'.cell? ⟨W.heap.size + 1, 1, none⟩ = some (.slice V2 n2 v2) ∧ w'.cell? ⟨W.heap.size + 1, 2, none⟩ = some (.slice R2 r2 z2) ∧ w'.cell? ⟨W.heap.size + 1, 3, none⟩ = some (.slice M2 q.main.length d2))
                (first | (with_reducible exact S0.out) | (with_reducible exact S1.out) | (with_reducible exact S2.out) | (with_reducible exact S3.out) | (with_reducible exact S4.out))
                (first
                | (go_at_call 10; have HX := HA.out _ CD.out; (with_reducible refine HX.mono ?_); clear HX; rintro e u1 ⟨rfl, hb⟩; have C1 := Lib.hid (thru CD.out hb); have S1 := Lib.hid (HSB.out _ C1.out); clear hb)
                | (go_at_call 17; have HX := HXp.out _ C1.out; (with_reducible refine HX.mono ?_); clear HX; rintro e u2 ⟨a1, a2, a3, a4, rfl, hp, hb⟩; have C2 := Lib.hid (thru C1.out hb); have P2 := Lib.hid hp; have S2 := Lib.hid (HSB.out _ C2.out); clear hb hp)
                | (go_at_call 17; have HX := HXq.out _ C2.out; (with_reducible refine HX.mono ?_); clear HX; rintro e u3 ⟨c1, c2, c3, c4, rfl, hp, hb⟩; have C3 := Lib.hid (thru C2.out hb); have S3 := Lib.hid (HSB.out _ C3.out); have HZ : Hid (Calls Tryd.prog 28 #[pgV a1 a2 a3 a4, pgV c1 c2 c3 c4] u3 (fun e w2 => e = .returned (.bool b3) ∧ Below u3.heap.size u3 w2)) := Lib.hid (by rw [HF.out]; exact same_any n p q _ _ _ _ _ _ _ _ _ u3 ((P2.out.below hb (fun b h => h)).wide (lo_up (fun b h => h) hb.size)) hp (fun b h => h)); clear hb hp)
                | (go_at_call 28; have HX := HZ.out; (with_reducible refine HX.mono ?_); clear HX; rintro e u4 ⟨rfl, hb⟩; have C4 := Lib.hid (thru C3.out hb); have S4 := Lib.hid (HSB.out _ C4.out); clear hb))
              all_goals go_wp2_with fail
              all_goals go_ret
              all_goals exact ⟨by simp, thru B0.out C4.out⟩
end Go.Proofs.YtpccomjgoclmgaaDoor
