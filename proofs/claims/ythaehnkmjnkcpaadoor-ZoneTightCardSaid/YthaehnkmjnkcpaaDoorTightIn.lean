/- The walk of ZoneTight: where there is a point, and both variables are. -/
import Derived.Test.YthaehnkmjnkcpaaDoorTightWalk
import Derived.Test.YthaehnkmjnkcpaaDoorTightRows
namespace Go.Proofs.YthaehnkmjnkcpaaDoor
open Go.RowKit
attribute [local go_sem ↓] Go.wp_at_zero Go.wp_at_succ

theorem field_zone (N : Int) (A : Option Addr) (l c : Nat) (W : World) : Sem.run Tryd.prog (Instr.field 27 (zoneV N A l c) 1) W = Result.ok (.slice A l c) W := by kernel_rfl
set_option maxRecDepth 100000 in
set_option maxHeartbeats 6400000 in
theorem tight_in {w : World} {N : Int} {A : Option Addr} {ml cap I J : Nat} {f : Nat → Int} {C : Mat} (hz : ZArg w (zoneV N A ml cap) N ml f) (h : ml ≤ 100) (hR : zr N ml f = some C) (hI : I < zm N) (hJ : J < zm N) :
    Calls Tryd.prog 3 #[zoneV N A ml cap, .int .i64 (I : Int), .int .i64 (J : Int)] w (RetB w true) := by
  have HT := Lib.hid (rz_new w (.int .i64 N) (.slice A ml cap))
  have HE := Lib.hid (decide_eq_true h)
  have HC : Hid (∀ W, Below w.heap.size w W → Calls Tryd.prog 6 #[zoneV N A ml cap] W (RetC W (zm N) (some C))) := Lib.hid fun W hb => by
    have := close_z (hz.below hb)
    rw [hR] at this
    exact this
  obtain ⟨h0, h7⟩ := zm_bd N
  have e1 : rlen (zm N) (some C) = zm N * zm N := rfl
  have e2 := sq_pos h0
  have HCl := Lib.hid (zr_closed hR)
  clear h hz hR
  generalize zm N = m at *
  have d1 : decide ((I : Int) < 0) = false := decide_eq_false (by omega)
  have d2 : decide ((m : Int) - 1 < (I : Int)) = false := decide_eq_false (by omega)
  have d3 : decide ((J : Int) < 0) = false := decide_eq_false (by omega)
  have d4 : decide ((m : Int) - 1 < (J : Int)) = false := decide_eq_false (by omega)
  have HI := Lib.hid hI
  have HJ := Lib.hid hJ
  clear hI hJ
  have d0 : ((m : Int) * (m : Int) == 0) = false := by
    have : 0 < (m : Int) * (m : Int) := Int.mul_pos (by omega) (by omega)
    simp
    omega
  have H0 := Lib.hid h0
  have H7 := Lib.hid h7
  go_enter Tryd.func3, Tryd.ntmps3
  go_wp2_with (first
    | (go_at_call 4; ((with_reducible refine (few_any _ _ A ml cap).mono ?_); rw [HE.out]; rintro e w1 ⟨rfl, hb1⟩); have F1 := HT.out.below hb1; have y0 := F1.1.cell0; have y1 := F1.1.cell1)
    | (go_at_call 7; ((with_reducible refine (of_zone _ N A ml cap).mono ?_); rintro e w2 ⟨rfl, hb2⟩); have F2 := F1.below hb2; have HB2 := Lib.hid F2.2)
    | (go_at_call 6; ((with_reducible refine (HC.out _ HB2.out).mono ?_); rintro e w3 ⟨A3, c3, rfl, hz3, hb3⟩); have HX := Lib.hid (xs_new (HB2.out.trans (hb3.mono HB2.out.size)) hz3); clear hz3 hb3 F1 F2 y0 y1; have x0 := HX.out.box.cell0; have x1 := HX.out.box.cell1)
    | (go_at_call 8; ((with_reducible refine (HX.out.get H0.out H7.out HI.out HJ.out).mono ?_); rintro e w5 ⟨rfl, hb5⟩); have HX5 := Lib.hid (HX.out.below hb5); clear hb5; have z0 := HX5.out.box.cell0; have z1 := HX5.out.box.cell1))
  have hinfo : (Tryd.prog.info? 3).map (fun i => (i.zero, i.size, i.bytes)) = some (some (.int .i64 0), 1, 8) := by kernel_rfl
  obtain ⟨ii, hii, hiz, his, hib⟩ := info_parts hinfo
  have HI0 := Lib.hid (And.intro hii (And.intro hiz (And.intro his hib)))
  clear hinfo hii hiz his hib x0 x1 z0 z1
  go_loopg [9, 10, 11] (m - 1) (fun gk t9 t10 t11 wr => ∃ (n k : Nat) (vh vl : Value), n + gk = m - 1 ∧ n + 1 = k ∧ vh = t9 ∧ vl = t10 ∧ t11 = .int .i64 (k : Int) ∧ TR w5 vh vl n n (hiL C n) (loL C n) wr)
  case atStart => exact ⟨0, 1, _, _, by omega, rfl, rfl, rfl, rfl, tr_start w5⟩
  case round =>
    rename Nat => g0
    obtain ⟨n, k, vh, vl, hgn, hkn, rfl, rfl, rfl, hT⟩ := hrel
    have HKn := Lib.hid hkn
    have HG := Lib.hid hgn
    have HXr := Lib.hid (HX5.out.below hT.low)
    have HT1 := Lib.hid hT
    have x0 := HXr.out.box.cell0
    have x1 := HXr.out.box.cell1
    clear hT
    by_cases hk : k < m
    · have dk : decide ((k : Int) ≤ (m : Int) - 1) = true := decide_eq_true (by omega)
      have hsp := HXr.out.span H0.out H7.out (k := k) (by omega) hk
      have hhi := hiL_next C n
      have hlo := loL_next C n
      rw [hkn] at hhi hlo
      obtain ⟨lo, el⟩ : ∃ x, -(C 0 k) = x := ⟨_, rfl⟩
      obtain ⟨hi, eh⟩ : ∃ x, C k 0 = x := ⟨_, rfl⟩
      rw [el, eh] at hsp
      rw [el] at hlo
      rw [eh] at hhi
      have HSp := Lib.hid hsp
      have HLo := Lib.hid hlo
      have HHi := Lib.hid hhi
      clear hsp hlo hhi el eh hgn hkn
      go_upto_region 12 with (first
        | (go_at_call 9; ((with_reducible refine HSp.out.mono ?_); rintro e w6 ⟨rfl, hb6⟩); have HR0 : Hid (RS w5 w6.heap.size lo hi vh vl n n (hiL C n) (loL C n) (w6.alloc (.cells #[.int .i64 lo, .int .i64 hi] 32))) := Lib.hid ⟨(HT1.out.below hb6).below (zboxed w6 _), Duo.new w6 _ _ _⟩; clear hb6))
      obtain ⟨wa, hwa⟩ : ∃ wa, wa = w6.alloc (.cells #[.int .i64 lo, .int .i64 hi] 32) := ⟨_, rfl⟩
      rw [← hwa] at HR0 ⊢
      obtain ⟨sb, hsb⟩ : ∃ sb, sb = w6.heap.size := ⟨_, rfl⟩
      rw [← hsb] at HR0 ⊢
      clear hwa hsb
      have HM : Hid (n + 1 ≤ maxLen ∧ (n + 1) * 8 ≤ 140737488355328) := Lib.hid (by have := HKn.out; unfold maxLen; omega)
      have R0 := Lib.hid HR0.out.drew
      have RA1 := Lib.hid (HR0.out.alloc (.cells #[.int .i64 hi] 3)).drew
      have RB1 := Lib.hid (HR0.out.alloc (.cells #[.int .i64 lo] 3)).drew
      have RA2 := Lib.hid ((HR0.out.alloc (.cells #[.int .i64 hi] 3)).alloc (.cells #[.int .i64 lo] 3)).drew
      have RA3 := Lib.hid ((HR0.out.alloc (.cells #[.int .i64 lo] 3)).alloc (.cells #[.int .i64 hi] 3)).drew
      have PA1 : Hid (Boxed ((wa.alloc (.cells #[.int .i64 hi] 3)).drew) wa.heap.size 3 (.int .i64 hi)) := Lib.hid (World.alloc_heap_new wa _)
      have PB1 : Hid (Boxed ((wa.alloc (.cells #[.int .i64 lo] 3)).drew) wa.heap.size 3 (.int .i64 lo)) := Lib.hid (World.alloc_heap_new wa _)
      have PA2x : Hid (Boxed (((wa.alloc (.cells #[.int .i64 hi] 3)).alloc (.cells #[.int .i64 lo] 3)).drew) wa.heap.size 3 (.int .i64 hi)) := Lib.hid (box_two wa _ _).1
      have PA2y : Hid (Boxed (((wa.alloc (.cells #[.int .i64 hi] 3)).alloc (.cells #[.int .i64 lo] 3)).drew) (wa.heap.size + 1) 3 (.int .i64 lo)) := Lib.hid (box_two wa _ _).2
      have PA3y : Hid (Boxed (((wa.alloc (.cells #[.int .i64 lo] 3)).alloc (.cells #[.int .i64 hi] 3)).drew) wa.heap.size 3 (.int .i64 lo)) := Lib.hid (box_two wa _ _).1
      have PA3x : Hid (Boxed (((wa.alloc (.cells #[.int .i64 lo] 3)).alloc (.cells #[.int .i64 hi] 3)).drew) (wa.heap.size + 1) 3 (.int .i64 hi)) := Lib.hid (box_two wa _ _).2
      have a0 := R0.out.cells.1
      have a1 := R0.out.cells.2
      have b0 := RA1.out.cells.1
      have b1 := RA1.out.cells.2
      have c0 := RB1.out.cells.1
      have c1 := RB1.out.cells.2
      clear dk x0 x1
      go_region_law (first
        | (refine step_append_at rfl (.tmp 58) (.tmp 61) 22 rfl w5.heap.size 3 ii (.int .i64 0) 1 8 Tryd.underlying22 HI0.out.1 HI0.out.2.1 HI0.out.2.2.1 HI0.out.2.2.2 rfl (by decide) vh n (hiL C n) (by simp [Act.eval]) RA1.out.tr.h ⟨wa.heap.size, 0, none⟩ 1 1 [.int .i64 hi] (by simp [Act.eval]) rfl (one_news PA1.out) (one_num _) HM.out.1 HM.out.2 RA1.out.tr.low.size ?_; intro v7 w7 ho7 hg7 hl7; have R7 := Lib.hid (RA1.out.addH ho7 hg7 hl7); have t0 := R7.out.cells.1; have t1 := R7.out.cells.2; clear ho7 hg7 hl7)
        | (refine step_append_at rfl (.tmp 58) (.tmp 61) 22 rfl w5.heap.size 3 ii (.int .i64 0) 1 8 Tryd.underlying22 HI0.out.1 HI0.out.2.1 HI0.out.2.2.1 HI0.out.2.2.2 rfl (by decide) vh n (hiL C n) (by simp [Act.eval]) RA2.out.tr.h ⟨wa.heap.size, 0, none⟩ 1 1 [.int .i64 hi] (by simp [Act.eval]) rfl (one_news PA2x.out) (one_num _) HM.out.1 HM.out.2 RA2.out.tr.low.size ?_; intro v7 w7 ho7 hg7 hl7; have R7 := Lib.hid (RA2.out.addH ho7 hg7 hl7); have t0 := R7.out.cells.1; have t1 := R7.out.cells.2; have P7 := Lib.hid (box_grown PA2y.out hg7 HR0.out.tr.h (Nat.le_refl _) (.inr rfl)); clear ho7 hg7 hl7)
        | (refine step_append_at rfl (.tmp 58) (.tmp 61) 22 rfl w5.heap.size 3 ii (.int .i64 0) 1 8 Tryd.underlying22 HI0.out.1 HI0.out.2.1 HI0.out.2.2.1 HI0.out.2.2.2 rfl (by decide) vh n (hiL C n) (by simp [Act.eval]) RA3.out.tr.h ⟨wa.heap.size + 1, 0, none⟩ 1 1 [.int .i64 hi] (by simp [Act.eval]) rfl (one_news PA3x.out) (one_num _) HM.out.1 HM.out.2 RA3.out.tr.low.size ?_; intro v7 w7 ho7 hg7 hl7; have R7 := Lib.hid (RA3.out.addH ho7 hg7 hl7); have t0 := R7.out.cells.1; have t1 := R7.out.cells.2; have P7 := Lib.hid (box_grown PA3y.out hg7 HR0.out.tr.h (Nat.le_refl _) (.inl rfl)); clear ho7 hg7 hl7)
        | (refine step_append_at rfl (.tmp 63) (.tmp 66) 22 rfl w5.heap.size 3 ii (.int .i64 0) 1 8 Tryd.underlying22 HI0.out.1 HI0.out.2.1 HI0.out.2.2.1 HI0.out.2.2.2 rfl (by decide) vl n (loL C n) (by simp [Act.eval]) RB1.out.tr.l ⟨wa.heap.size, 0, none⟩ 1 1 [.int .i64 lo] (by simp [Act.eval]) rfl (one_news PB1.out) (one_num _) HM.out.1 HM.out.2 RB1.out.tr.low.size ?_; intro v7 w7 ho7 hg7 hl7; have R7 := Lib.hid (RB1.out.addL ho7 hg7 hl7); have t0 := R7.out.cells.1; have t1 := R7.out.cells.2; clear ho7 hg7 hl7)
        | (refine step_append_at rfl (.tmp 63) (.tmp 66) 22 rfl w5.heap.size 3 ii (.int .i64 0) 1 8 Tryd.underlying22 HI0.out.1 HI0.out.2.1 HI0.out.2.2.1 HI0.out.2.2.2 rfl (by decide) vl n (loL C n) (by simp [Act.eval]) RA2.out.tr.l ⟨wa.heap.size + 1, 0, none⟩ 1 1 [.int .i64 lo] (by simp [Act.eval]) rfl (one_news PA2y.out) (one_num _) HM.out.1 HM.out.2 RA2.out.tr.low.size ?_; intro v7 w7 ho7 hg7 hl7; have R7 := Lib.hid (RA2.out.addL ho7 hg7 hl7); have t0 := R7.out.cells.1; have t1 := R7.out.cells.2; have P7 := Lib.hid (box_grown PA2x.out hg7 HR0.out.tr.l (Nat.le_refl _) (.inl rfl)); clear ho7 hg7 hl7)
        | (refine step_append_at rfl (.tmp 63) (.tmp 66) 22 rfl w5.heap.size 3 ii (.int .i64 0) 1 8 Tryd.underlying22 HI0.out.1 HI0.out.2.1 HI0.out.2.2.1 HI0.out.2.2.2 rfl (by decide) vl n (loL C n) (by simp [Act.eval]) RA3.out.tr.l ⟨wa.heap.size, 0, none⟩ 1 1 [.int .i64 lo] (by simp [Act.eval]) rfl (one_news PA3y.out) (one_num _) HM.out.1 HM.out.2 RA3.out.tr.low.size ?_; intro v7 w7 ho7 hg7 hl7; have R7 := Lib.hid (RA3.out.addL ho7 hg7 hl7); have t0 := R7.out.cells.1; have t1 := R7.out.cells.2; have P7 := Lib.hid (box_grown PA3x.out hg7 HR0.out.tr.l (Nat.le_refl _) (.inr rfl)); clear ho7 hg7 hl7)
        | (refine step_append_at rfl (.tmp 58) (.tmp 61) 22 rfl w5.heap.size 3 ii (.int .i64 0) 1 8 Tryd.underlying22 HI0.out.1 HI0.out.2.1 HI0.out.2.2.1 HI0.out.2.2.2 rfl (by decide) vh n (hiL C n) (by simp [Act.eval]) (R7.out.alloc _).tr.h ⟨w7.heap.size, 0, none⟩ 1 1 [.int .i64 hi] (by simp [Act.eval]) rfl (one_news (show Boxed _ w7.heap.size 3 (.int .i64 hi) from World.alloc_heap_new w7 _)) (one_num _) HM.out.1 HM.out.2 (R7.out.alloc _).tr.low.size ?_; intro v8 w8 ho8 hg8 hl8; have R8 := Lib.hid ((R7.out.alloc _).addH ho8 hg8 hl8); clear ho8 hg8 hl8)
        | (refine step_append_at rfl (.tmp 58) (.tmp 61) 22 rfl w5.heap.size 3 ii (.int .i64 0) 1 8 Tryd.underlying22 HI0.out.1 HI0.out.2.1 HI0.out.2.2.1 HI0.out.2.2.2 rfl (by decide) vh n (hiL C n) (by simp [Act.eval]) R7.out.tr.h ⟨wa.heap.size, 0, none⟩ 1 1 [.int .i64 hi] (by simp [Act.eval]) rfl (one_news P7.out) (one_num _) HM.out.1 HM.out.2 R7.out.tr.low.size ?_; intro v8 w8 ho8 hg8 hl8; have R8 := Lib.hid (R7.out.addH ho8 hg8 hl8); clear ho8 hg8 hl8)
        | (refine step_append_at rfl (.tmp 58) (.tmp 61) 22 rfl w5.heap.size 3 ii (.int .i64 0) 1 8 Tryd.underlying22 HI0.out.1 HI0.out.2.1 HI0.out.2.2.1 HI0.out.2.2.2 rfl (by decide) vh n (hiL C n) (by simp [Act.eval]) R7.out.tr.h ⟨wa.heap.size + 1, 0, none⟩ 1 1 [.int .i64 hi] (by simp [Act.eval]) rfl (one_news P7.out) (one_num _) HM.out.1 HM.out.2 R7.out.tr.low.size ?_; intro v8 w8 ho8 hg8 hl8; have R8 := Lib.hid (R7.out.addH ho8 hg8 hl8); clear ho8 hg8 hl8)
        | (refine step_append_at rfl (.tmp 63) (.tmp 66) 22 rfl w5.heap.size 3 ii (.int .i64 0) 1 8 Tryd.underlying22 HI0.out.1 HI0.out.2.1 HI0.out.2.2.1 HI0.out.2.2.2 rfl (by decide) vl n (loL C n) (by simp [Act.eval]) (R7.out.alloc _).tr.l ⟨w7.heap.size, 0, none⟩ 1 1 [.int .i64 lo] (by simp [Act.eval]) rfl (one_news (show Boxed _ w7.heap.size 3 (.int .i64 lo) from World.alloc_heap_new w7 _)) (one_num _) HM.out.1 HM.out.2 (R7.out.alloc _).tr.low.size ?_; intro v8 w8 ho8 hg8 hl8; have R8 := Lib.hid ((R7.out.alloc _).addL ho8 hg8 hl8); clear ho8 hg8 hl8)
        | (refine step_append_at rfl (.tmp 63) (.tmp 66) 22 rfl w5.heap.size 3 ii (.int .i64 0) 1 8 Tryd.underlying22 HI0.out.1 HI0.out.2.1 HI0.out.2.2.1 HI0.out.2.2.2 rfl (by decide) vl n (loL C n) (by simp [Act.eval]) R7.out.tr.l ⟨wa.heap.size, 0, none⟩ 1 1 [.int .i64 lo] (by simp [Act.eval]) rfl (one_news P7.out) (one_num _) HM.out.1 HM.out.2 R7.out.tr.low.size ?_; intro v8 w8 ho8 hg8 hl8; have R8 := Lib.hid (R7.out.addL ho8 hg8 hl8); clear ho8 hg8 hl8)
        | (refine step_append_at rfl (.tmp 63) (.tmp 66) 22 rfl w5.heap.size 3 ii (.int .i64 0) 1 8 Tryd.underlying22 HI0.out.1 HI0.out.2.1 HI0.out.2.2.1 HI0.out.2.2.2 rfl (by decide) vl n (loL C n) (by simp [Act.eval]) R7.out.tr.l ⟨wa.heap.size + 1, 0, none⟩ 1 1 [.int .i64 lo] (by simp [Act.eval]) rfl (one_news P7.out) (one_num _) HM.out.1 HM.out.2 R7.out.tr.low.size ?_; intro v8 w8 ho8 hg8 hl8; have R8 := Lib.hid (R7.out.addL ho8 hg8 hl8); clear ho8 hg8 hl8))
      all_goals
        go_wp2_with fail
        have hG := HG.out
        have hK := HKn.out
        go_roundg (g0 - 1)
        case measure => omega
        case rel =>
          have t := R8.out.tr
          rw [HHi.out, HLo.out, HKn.out] at t
          exact ⟨k, k + 1, _, _, by omega, rfl, rfl, rfl, by go_num, t⟩
    · have dk : decide ((k : Int) ≤ (m : Int) - 1) = false := decide_eq_false (by omega)
      have hnm : n + 1 = m := by omega
      have HHas := Lib.hid (fun (W : World) (hb : Below wr.heap.size wr W) => (HXr.out.below hb).has H0.out H7.out hnm (own_under HT1.out.h hb) (high_pt HCl.out hnm fun _ _ => rfl))
      have HLas := Lib.hid (fun (W : World) (hb : Below wr.heap.size wr W) => (HXr.out.below hb).has H0.out H7.out hnm (own_under HT1.out.l hb) (low_pt HCl.out hnm fun _ _ => rfl))
      have hbd := HCl.out.bd HI.out HJ.out
      have HGy := Lib.hid (fun (W : World) (hb : Below wr.heap.size wr W) => (HXr.out.below hb).guard_yes H0.out H7.out HI.out HJ.out)
      have HGn := Lib.hid (fun (W : World) (hb : Below wr.heap.size wr W) => (HXr.out.below hb).guard_no H0.out H7.out HI.out HJ.out)
      have HXs := Lib.hid (fun (W : World) (hb : Below wr.heap.size wr W) => (And.intro (HXr.out.below hb).box.cell0 (HXr.out.below hb).box.cell1))
      have d5 : decide ((0 : Int) < (m : Int) * (m : Int)) = true := decide_eq_true (Int.mul_pos (by omega) (by omega))
      obtain ⟨b, hb⟩ : ∃ x, C I J = x := ⟨_, rfl⟩
      rw [hb] at HGy HGn hbd ⊢
      have w1' : IntKind.i64.wrap (-b) = -b := IntWalk.i64_in _ (by omega)
      have w2' : IntKind.i64.wrap (-b - 1) = -b - 1 := IntWalk.i64_in _ (by omega)
      clear hb hgn hkn hk hnm hbd
      have fz := field_zone
      go_wp2_with (first
        | (go_at_call 5; ((with_reducible refine (alive_any _).mono ?_); rintro e w6 ⟨rfl, hb6⟩); have H6 := Lib.hid hb6; have p0 := (HXs.out _ hb6).1; have p1 := (HXs.out _ hb6).2; clear hb6)
        | (go_at_call 10; ((with_reducible refine (HGy.out _ H6.out).mono ?_); rintro e w7 ⟨A7, c7, rfl, hb7⟩); have H7' := Lib.hid (H6.out.trans (hb7.mono H6.out.size)); have q0 := (HXs.out _ H7'.out).1; have q1 := (HXs.out _ H7'.out).2; clear hb7)
        | (go_at_call 10; ((with_reducible refine (HGn.out _ H7'.out).mono ?_); rintro e w8 ⟨A8, c8, rfl, hb8⟩); have H8 := Lib.hid (H7'.out.trans (hb8.mono H7'.out.size)); have r0 := (HXs.out _ H8.out).1; have r1 := (HXs.out _ H8.out).2; clear hb8)
        | (go_at_call 11; ((with_reducible refine (HHas.out _ H8.out).mono ?_); rintro e w9 ⟨rfl, hb9⟩); have H9 := Lib.hid (H8.out.trans (hb9.mono H8.out.size)); have s0 := (HXs.out _ H9.out).1; have s1 := (HXs.out _ H9.out).2; clear hb9)
        | (go_at_call 11; ((with_reducible refine (HLas.out _ H9.out).mono ?_); rintro e w10 ⟨rfl, hb10⟩); have H10 := Lib.hid (HXr.out.low.trans ((H9.out.trans (hb10.mono H9.out.size)).mono HXr.out.low.size)); clear hb10))
      go_ret
      exact ⟨rfl, H10.out⟩
end Go.Proofs.YthaehnkmjnkcpaaDoor
