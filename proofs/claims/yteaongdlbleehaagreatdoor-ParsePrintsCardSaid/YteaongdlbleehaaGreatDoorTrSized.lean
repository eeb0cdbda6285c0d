/- The tree layer: how great a program is; how deep a row of statements is, by the document. -/
import Derived.Test.YteaongdlbleehaaGreatDoorTrPrint
namespace Go.Proofs.YteaongdlbleehaaGreatDoor
open Go.RowKit
/-- How great a program is. -/
def szPg (p : Pg) : Nat := szB p.main + sumF (fun q => szB q.2) p.procs
section
set_option maxRecDepth 100000 in
set_option maxHeartbeats 3200000 in
theorem rSized_any (n : Nat) (p : Pg) (vE vV vP vM : Value) (P : Nat → Prop) (W : World) (h : PgR P n W p vE vV vP vM) (hP : ∀ b, P b → b < W.heap.size) : Calls Tryz.prog 8 #[pgV vE vV vP vM] W (fun e w' => e = .returned (.int .i64 (W64 (szPg p))) ∧ Below W.heap.size W w') := by
  obtain ⟨A1, c1, rfl, -, -⟩ := h.en.slice
  obtain ⟨A2, c2, rfl, -, -⟩ := h.va.slice
  obtain ⟨A4, c4, rfl, -, -⟩ := h.mn.slice
  have hpr := h.pr
  obtain ⟨A, cap, rfl, hc, hl, hat⟩ := hpr
  have HAt := Lib.hid hat
  obtain ⟨W0, hW0⟩ : ∃ W0, W0 = W.alloc (.cells #[.slice A1 p.enums.length c1, .slice A2 p.vars.length c2, .slice A p.procs.length cap, .slice A4 p.main.length c4] 38) := ⟨_, rfl⟩
  have HB0 : Hid (Below W.heap.size W W0) := Lib.hid (by rw [hW0]; exact (Below.refl _ _).alloc (Nat.le_refl _) _)
  have HK : Hid (Blk W0 W.heap.size 38 #[.slice A1 p.enums.length c1, .slice A2 p.vars.length c2, .slice A p.procs.length cap, .slice A4 p.main.length c4]) := Lib.hid (by rw [hW0]; exact Blk.new W _ _)
  obtain ⟨sm, hsm⟩ : ∃ sm, sm = W64 (szB p.main) := ⟨_, rfl⟩
  have HM0 := Lib.hid (rSize_any n p.main _ P W0 (h.mn.below HB0.out hP) (lo_up hP HB0.out.size))
  rw [← hsm] at HM0
  have HSm := Lib.hid hsm
  have hl2 : p.procs.length ≤ 2199023255552 * 64 := by omega
  have z3 := HK.out.cell 3
  simp at z3
  have HW0 := Lib.hid hW0
  obtain ⟨m, hm⟩ : ∃ m, p.procs.length = m := ⟨_, rfl⟩
  have HM := Lib.hid hm
  have HC2 : Hid (∀ w1, Below W0.heap.size W0 w1 → w1.cell? ⟨W.heap.size, 2, none⟩ = some (.slice A m cap)) := Lib.hid fun w1 hb => by
    rw [← hm]
    exact (HK.out.below hb HK.out.lt).cell 2
  rw [hm] at hl2 hc ⊢ HW0
  clear hat hl hm hW0 h hsm HK
  go_enter Tryz.func8, Tryz.ntmps8
  go_upto_region 1 with fail
  rw [← HW0.out]
  go_wp2_with (go_at_call 22; have HX := HM0.out; (with_reducible refine HX.mono ?_); clear HX; rintro e w1 ⟨rfl, hb⟩; have B1 := Lib.hid hb; clear hb z3)
  go_loopw [3, 4] (fun s i wr => ∃ k : Nat, i = .int .i64 (k : Int) ∧ k ≤ m ∧ s = .int .i64 (W64 (szB p.main + sumF (fun q => szB q.2) (p.procs.take k))) ∧ Below W0.heap.size W0 wr) (fun _ i _ => m - (RowKit.intOf i).toNat)
  case atStart => exact ⟨0, rfl, Nat.zero_le _, by rw [List.take_zero]; simp only [sumF, Nat.add_zero]; rw [HSm.out], B1.out⟩
  case round =>
    obtain ⟨k, rfl, hk, rfl, hbw⟩ := hrel
    have z2 := HC2.out _ hbw
    by_cases hlt : k < m
    · obtain ⟨x, hx⟩ : ∃ x, p.procs[k]? = some x := ⟨p.procs[k]'(by rw [HM.out]; exact hlt), List.getElem?_eq_getElem _⟩
      obtain ⟨b, off, L, rfl, hbB, hxx, hr⟩ := HAt.out k x hx
      have hb0 := thru HB0.out hbw
      obtain ⟨x0, x1⟩ := keep2 hxx (hb0.block b (hP b hbB))
      obtain ⟨A', cap', rfl, hc', -⟩ := hr.slice
      have HS := Lib.hid (sumF_take (fun q => szB q.2) hx)
      have HBw := Lib.hid hbw
      have hs := HBw.out.size
      obtain ⟨sv, hsv⟩ : ∃ sv, sv = W64 (szB p.main + sumF (fun q => szB q.2) (p.procs.take k)) := ⟨_, rfl⟩
      rw [← hsv]
      have HSV := Lib.hid hsv
      have hi := W64_in (szB p.main + sumF (fun q => szB q.2) (p.procs.take k))
      rw [← hsv] at hi
      obtain ⟨tv, htv⟩ : ∃ tv, tv = W64 (szB x.2) := ⟨_, rfl⟩
      have HTV := Lib.hid htv
      have HC : Hid (Calls Tryz.prog 22 #[.slice A' x.2.length cap'] wr (fun e w' => e = .returned (.int .i64 tv) ∧ Below wr.heap.size wr w')) := Lib.hid (by
        rw [htv]
        exact rSize_any n x.2 _ P wr (hr.below hb0 hP) (lo_up hP hb0.size))
      clear hsv htv hxx hr hbw hb0
      go_wp2_with (go_at_call 22; have HX := HC.out; (with_reducible refine HX.mono ?_); clear HX; rintro e w1 ⟨rfl, hb⟩; have HB2 := Lib.hid hb; clear hb)
      go_roundw
      case rel => exact ⟨k + 1, by go_num, hlt, by rw [HS.out, ← Nat.add_assoc, ← W64_add, ← HSV.out, ← HTV.out], HBw.out.trans (HB2.out.mono hs)⟩
      case measure => simp [RowKit.intOf]; omega
    · have he : k = m := by omega
      subst he
      have HF : Hid (W64 (szB p.main + sumF (fun q => szB q.2) (p.procs.take k)) = W64 (szPg p)) := Lib.hid (by unfold szPg; rw [← HM.out, List.take_length])
      go_wp2_with fail
      go_ret
      exact ⟨ret_int HF.out, thru HB0.out hbw⟩
set_option maxRecDepth 100000 in
set_option maxHeartbeats 6400000 in
theorem rdepth_any (n : Nat) : ∀ (l : List St) (v : Value) (P : Nat → Prop) (W : World), StR P n W l v → (∀ b, P b → b < W.heap.size) → depB l ≤ 1152921504606846976 → Calls Tryz.prog 61 #[v] W (fun e w' => e = .returned (.int .i64 (depB l : Int)) ∧ Below W.heap.size W w') := by
  induction n with
  | zero => intro l v P W h; exact h.elim
  | succ n ih =>
    intro l v P W h hP hdp
    obtain ⟨A, cap, rfl, hc, hl, hat⟩ := h
    have HAt := Lib.hid hat
    have HIH := Lib.hid ih
    have hl2 : l.length ≤ 2199023255552 := by omega
    clear hat ih hl
    obtain ⟨m, hm⟩ : ∃ m, l.length = m := ⟨_, rfl⟩
    have HM := Lib.hid hm
    rw [hm] at hl2 hc ⊢
    clear hm
    rcases Nat.eq_zero_or_pos m with h0 | h0
    · subst h0
      have HZ : Hid (depB l = 0) := Lib.hid (by rw [List.length_eq_zero_iff.1 HM.out]; rfl)
      go_enter Tryz.func61, Tryz.ntmps61
      go_wp2
      go_ret
      exact ⟨ret_int (by rw [HZ.out]; rfl), Below.refl _ _⟩
    · have g1 : ((m : Int) == 0) = false := by simp; omega
      have g2 : decide (m = 0) = false := decide_eq_false (by omega)
      -- a row's depth is one more than the greatest of its rows
      obtain ⟨D, hD⟩ : ∃ D : Nat → Nat, ∀ k, D k = depB (l.take k) - 1 := ⟨fun k => depB (l.take k) - 1, fun k => rfl⟩
      have HD := Lib.hid hD
      have hD0 : D 0 = 0 := by rw [hD, List.take_zero]; rfl
      have HD0 := Lib.hid hD0
      clear hD hD0
      go_enter Tryz.func61, Tryz.ntmps61
      go_wp2
      go_loopw [3, 4, 5, 6] (fun s i _ _ wr => ∃ k : Nat, i = .int .i64 (k : Int) ∧ k ≤ m ∧ s = .int .i64 (D k : Int) ∧ Below W.heap.size W wr) (fun _ i _ _ _ => m - (RowKit.intOf i).toNat)
      case atStart => exact ⟨0, rfl, Nat.zero_le _, by rw [HD0.out]; rfl, Below.refl _ _⟩
      case round =>
        obtain ⟨k, rfl, hk, rfl, hbw⟩ := hrel
        by_cases hlt : k < m
        · obtain ⟨x, hx⟩ : ∃ x, l[k]? = some x := ⟨l[k]'(by rw [HM.out]; exact hlt), List.getElem?_eq_getElem _⟩
          obtain ⟨b, off, LE, LA, LB, rfl, hbB, hat, -, hE, hA, hB'⟩ := HAt.out k x hx
          obtain ⟨x0, x1, x2, x3, x4, x5⟩ := hat.below hbw (hP b hbB)
          obtain ⟨Ae, ce, rfl, -, -⟩ := hE.slice
          obtain ⟨Aa, ca, rfl, -, -⟩ := hA.slice
          obtain ⟨Ab, cb, rfl, -, -⟩ := hB'.slice
          have hs := depB_take hx
          have d1 := depB_mem hx
          have d2 := depB_to l k
          have HBw := Lib.hid hbw
          have hdk : D k ≤ 1152921504606846976 := by rw [HD.out]; omega
          obtain ⟨sv, hsv⟩ : ∃ sv, sv = D k := ⟨_, rfl⟩
          obtain ⟨ta, hta⟩ : ∃ ta, ta = depB x.A := ⟨_, rfl⟩
          obtain ⟨tb, htb⟩ : ∃ tb, tb = depB x.B := ⟨_, rfl⟩
          have HS : Hid (D (k + 1) = max sv (max ta tb)) := Lib.hid (by
            rw [HD.out, hs, hsv, HD.out, hta, htb]
            omega)
          rw [← hsv]
          rw [← hsv] at hdk
          rw [← hta, ← htb] at d1
          have hsv2 : (sv : Int) ≤ 1152921504606846976 := by omega
          have hta2 : (ta : Int) ≤ 1152921504606846976 := by omega
          have htb2 : (tb : Int) ≤ 1152921504606846976 := by omega
          have HCa : Hid (Calls Tryz.prog 61 #[.slice Aa x.A.length ca] wr (fun e w' => e = .returned (.int .i64 (ta : Int)) ∧ Below wr.heap.size wr w')) := Lib.hid (by
            rw [hta]
            exact HIH.out x.A _ P wr (hA.below hbw hP) (lo_up hP hbw.size) (by omega))
          have HCb : Hid (∀ w2, Below wr.heap.size wr w2 → Calls Tryz.prog 61 #[.slice Ab x.B.length cb] w2 (fun e w' => e = .returned (.int .i64 (tb : Int)) ∧ Below w2.heap.size w2 w')) := Lib.hid fun w2 hb2 => by
            rw [htb]
            exact HIH.out x.B _ P w2 (hB'.below (thru hbw hb2) hP) (lo_up hP (thru hbw hb2).size) (by omega)
          have HX4 : Hid (∀ w2, Below wr.heap.size wr w2 → w2.cell? ⟨b, off + k * 6 + 4, none⟩ = some (.slice Ab x.B.length cb)) := Lib.hid fun w2 hb2 => (hb2.cell (p := ⟨b, _, none⟩) (lo_up hP hbw.size b hbB)).trans x4
          clear hsv hta htb hat hE hA hB' hbw d1 d2 hs hdk x0 x1 x2 x5 hdp
          by_cases c1 : ta < tb
          · have HE1 : Hid (max ta tb = tb) := Lib.hid (by omega)
            by_cases c2 : sv < tb
            · go_wp2_with (first
                | (go_at_call 61; have HX := HCa.out; (with_reducible refine HX.mono ?_); clear HX; rintro e w1 ⟨rfl, hb⟩; have B1 := Lib.hid hb; have y4 := HX4.out _ hb; clear hb x3 x4)
                | (go_at_call 61; have HX := HCb.out _ B1.out; (with_reducible refine HX.mono ?_); clear HX; rintro e w2 ⟨rfl, hb⟩; have B2 := Lib.hid (thru B1.out hb); clear hb))
              go_roundw
              case rel => exact ⟨k + 1, by go_num, hlt, by rw [HS.out, HE1.out]; exact int_of (by omega), thru HBw.out B2.out⟩
              case measure => simp [RowKit.intOf]; omega
            · go_wp2_with (first
                | (go_at_call 61; have HX := HCa.out; (with_reducible refine HX.mono ?_); clear HX; rintro e w1 ⟨rfl, hb⟩; have B1 := Lib.hid hb; have y4 := HX4.out _ hb; clear hb x3 x4)
                | (go_at_call 61; have HX := HCb.out _ B1.out; (with_reducible refine HX.mono ?_); clear HX; rintro e w2 ⟨rfl, hb⟩; have B2 := Lib.hid (thru B1.out hb); clear hb))
              go_roundw
              case rel => exact ⟨k + 1, by go_num, hlt, by rw [HS.out, HE1.out]; exact int_of (by omega), thru HBw.out B2.out⟩
              case measure => simp [RowKit.intOf]; omega
          · have HE1 : Hid (max ta tb = ta) := Lib.hid (by omega)
            by_cases c2 : sv < ta
            · go_wp2_with (first
                | (go_at_call 61; have HX := HCa.out; (with_reducible refine HX.mono ?_); clear HX; rintro e w1 ⟨rfl, hb⟩; have B1 := Lib.hid hb; have y4 := HX4.out _ hb; clear hb x3 x4)
                | (go_at_call 61; have HX := HCb.out _ B1.out; (with_reducible refine HX.mono ?_); clear HX; rintro e w2 ⟨rfl, hb⟩; have B2 := Lib.hid (thru B1.out hb); clear hb))
              go_roundw
              case rel => exact ⟨k + 1, by go_num, hlt, by rw [HS.out, HE1.out]; exact int_of (by omega), thru HBw.out B2.out⟩
              case measure => simp [RowKit.intOf]; omega
            · go_wp2_with (first
                | (go_at_call 61; have HX := HCa.out; (with_reducible refine HX.mono ?_); clear HX; rintro e w1 ⟨rfl, hb⟩; have B1 := Lib.hid hb; have y4 := HX4.out _ hb; clear hb x3 x4)
                | (go_at_call 61; have HX := HCb.out _ B1.out; (with_reducible refine HX.mono ?_); clear HX; rintro e w2 ⟨rfl, hb⟩; have B2 := Lib.hid (thru B1.out hb); clear hb))
              go_roundw
              case rel => exact ⟨k + 1, by go_num, hlt, by rw [HS.out, HE1.out]; exact int_of (by omega), thru HBw.out B2.out⟩
              case measure => simp [RowKit.intOf]; omega
        · have he : k = m := by omega
          subst he
          have hge : 1 ≤ depB l := by
            obtain ⟨x, hx⟩ : ∃ x, l[0]? = some x := ⟨l[0]'(by rw [HM.out]; exact h0), List.getElem?_eq_getElem _⟩
            have := depB_mem hx
            omega
          have HF : Hid (D k + 1 = depB l) := Lib.hid (by rw [HD.out, ← HM.out, List.take_length]; omega)
          have hdk : (D k : Int) ≤ 1152921504606846976 := by have := HF.out; omega
          clear hge hdp
          go_wp2_with fail
          go_ret
          exact ⟨ret_int (by rw [← HF.out]; omega), hbw⟩
end
end Go.Proofs.YteaongdlbleehaaGreatDoor
