/- The walk of BddSupport. -/
import Derived.Test.YtdgjbbcalffbcaaBSuppRef
namespace Go.Proofs.Ytdgjbbcalffbcaa
open Go.RowKit
attribute [local go_sem ↓] Go.wp_at_zero Go.wp_at_succ

theorem keep_two {w w1 : World} (hb : Below w.heap.size w w1) {a b j k : Nat} {x y : Option Value} (h : (a < w.heap.size ∧ b < w.heap.size) ∧ w.cell? ⟨a, j, none⟩ = x ∧ w.cell? ⟨b, k, none⟩ = y) : (a < w1.heap.size ∧ b < w1.heap.size) ∧ w1.cell? ⟨a, j, none⟩ = x ∧ w1.cell? ⟨b, k, none⟩ = y :=
  ⟨⟨Nat.lt_of_lt_of_le h.1.1 hb.size, Nat.lt_of_lt_of_le h.1.2 hb.size⟩, (hb.cell (p := ⟨a, j, none⟩) h.1.1).trans h.2.1, (hb.cell (p := ⟨b, k, none⟩) h.1.2).trans h.2.2⟩
theorem new_fifty (w : World) : Calls Try.prog 10 #[.int .i64 65536, .int .i64 50] w (RetMgr 65536 w) := New_any 65536 50 (by omega) w
set_option maxRecDepth 100000 in
set_option maxHeartbeats 6400000 in
theorem support_main (f : Nat → Opn) (As : Option Addr) (ml cs : Nat) (w : World) (hm : ml ≤ 9223372036854775807) (_hmc : ml ≤ cs) (hO : Ops w As ml f) :
    Calls Try.prog 7 #[.slice As ml cs] w fun e w' => e = .returned (.bool true) ∧ Below w.heap.size w w' := by
  have HO := Lib.hid hO
  have mn := m_nil
  have mnn := m_nnil
  clear hO
  by_cases hfar : 16 < ml
  · have e0 : decide ((16 : Int) < (ml : Int)) = true := decide_eq_true (by omega)
    go_enter Try.func7, Try.ntmps7
    go_wp2_with (first
      | (go_at_call 10; ((with_reducible refine (new_fifty _).mono ?_); rintro e w1 ⟨m, own, rfl, hM, hb1, hw, -⟩); have HB1 := Lib.hid hb1; clear hb1)
      | (go_at_call 11; ((with_reducible refine (alive_any _).mono ?_); rintro e w9 ⟨rfl, hb9⟩); have HB9 := Lib.hid (HB1.out.trans (hb9.mono HB1.out.size)); clear hb9))
    go_ret
    exact ⟨rfl, HB9.out⟩
  have hml : ml ≤ 20 := by omega
  have HML := Lib.hid hml
  have e0 : decide ((16 : Int) < (ml : Int)) = false := decide_eq_false (by omega)
  clear hfar
  go_enter Try.func7, Try.ntmps7
  go_wp2_with (first
    | (go_at_call 10; ((with_reducible refine (new_fifty _).mono ?_); rintro e w1 ⟨m, own, rfl, hM, hb1, hw, -⟩); have HM := Lib.hid hM; have HB1 := Lib.hid hb1; have HW := Lib.hid hw; clear hM hb1 hw)
    | (go_at_call 12; ((with_reducible refine (run_law HM.out HB1.out HW.out HO.out HML.out).mono ?_); rintro e w2 ⟨full, rl, tl, Fl, L, ow, vl, vt, rfl, hI⟩); (obtain ⟨gl, cl, gt, ct, e8, e9⟩ := hI.form); subst e8; subst e9; have HI := Lib.hid hI; clear hI))
  have hlen := HI.out.len2
  go_loopg [34] rl.length (fun gk t34 wq => ∃ (j : Nat) (ow2 : Nat → Prop), j + gk = rl.length ∧ t34 = .int .i64 (j : Int) ∧ RunI w1 own m 65536 [] f ml full rl tl Fl L ow2 (.slice (some ⟨gl, 0, none⟩) rl.length cl) (.slice (some ⟨gt, 0, none⟩) rl.length ct) wq)
  case atStart => exact ⟨0, ow, by omega, rfl, HI.out⟩
  case round =>
    rename Nat => g1
    obtain ⟨j, ow2, hgj, rfl, hJ⟩ := hrel
    have HJ := Lib.hid hJ
    have HGj := Lib.hid hgj
    clear hJ hgj
    by_cases hjn : j < rl.length
    · obtain ⟨r, F, gv, cv, -, -, htl, htb, hsz, c1, c2, hno, hnv⟩ := HJ.out.at_ hjn
      have hbd : Below wr.heap.size wr wr.drew := (Below.refl _ _).drew
      have hJd := HJ.out.mem.mg.below hbd
      have htd := htb.below hbd
      have hsu := suppS_is hJd.right hJd.bools htl
      obtain ⟨x, hx⟩ : ∃ x, suppP L r = x := ⟨_, rfl⟩
      rw [hx] at hsu
      have HSup : Hid (Calls Try.prog 18 #[.pointer (some ⟨m, 0, none⟩), .int .i64 r] wr.drew fun e w' => ∃ own' : Nat → Prop, e = .returned (.int .u64 (x : Nat)) ∧ Mg w' own' m 65536 L ∧ Went ow2 wr.drew own' w') := Lib.hid (by rw [← hx]; exact support_any hJd r)
      have HRef : Hid (∀ w4 ow4, Went ow2 wr.drew ow4 w4 → Calls Try.prog 19 #[.slice (some ⟨gv, 0, none⟩) 4096 cv] w4 fun e w' => e = .returned (.int .u64 (x : Nat)) ∧ Below w4.heap.size w4 w') := Lib.hid fun w4 ow4 q => by
        have := support_ref (htd.went q (fun g e => by have : gv = g := by simpa [Value.ownBlock] using e
                                                       rw [← this]; exact hnv))
        rw [hsu] at this
        exact this
      have K0 : Hid ((gl < wr.drew.heap.size ∧ gt < wr.drew.heap.size) ∧ wr.drew.cell? ⟨gl, j, none⟩ = some (.int .i64 r) ∧ wr.drew.cell? ⟨gt, j, none⟩ = some (.slice (some ⟨gv, 0, none⟩) 4096 cv)) := Lib.hid ⟨hsz, c1, c2⟩
      have HNo := Lib.hid hno
      have HQd := Lib.hid (Went.of_below hbd ow2)
      clear htl htb hsz c1 c2 hno hnv hbd hJd htd hsu hx
      go_wp2_with fail
      go_region_held3 (fun w => ((gl < w.heap.size ∧ gt < w.heap.size) ∧ w.cell? ⟨gl, j, none⟩ = some (.int .i64 r) ∧ w.cell? ⟨gt, j, none⟩ = some (.slice (some ⟨gv, 0, none⟩) 4096 cv)))
        (first | (with_reducible exact K0.out) | (with_reducible exact keep_two hb5 (went_two q4 HNo.out K0.out)) | (with_reducible exact went_two q4 HNo.out K0.out))
        (first
          | (go_at_call 18; ((with_reducible refine HSup.out.mono ?_); rintro e w4 ⟨ow4, rfl, m4, q4⟩))
          | (go_at_call 19; ((with_reducible refine (HRef.out _ _ q4).mono ?_); rintro e w5 ⟨rfl, hb5⟩)))
      have HJ5 := Lib.hid ((HJ.out.moveS (HQd.out.trans q4) m4).below hb5)
      clear hb5 q4 m4
      go_wp2_with fail
      have hG1 := HGj.out
      go_roundg (g1 - 1)
      case measure => omega
      case rel => exact ⟨j + 1, ow4, by omega, by go_num, HJ5.out⟩
    · have hje : j = rl.length := by have := HGj.out; omega
      subst hje
      have HLow := Lib.hid (went_low HW.out HB1.out HJ.out.mem.went)
      have HEnd : Hid (∀ w9, Below wr.heap.size wr w9 → Calls Try.prog 18 #[.pointer (some ⟨m, 0, none⟩), .int .i64 1073741824] w9 fun e w' => e = .returned (.int .u64 0) ∧ Below w.heap.size w w') := Lib.hid fun w9 hb9 => by
        have hm := HJ.out.mem.mg.below hb9
        refine (support_any hm 1073741824).mono ?_
        rintro e w' ⟨own', rfl, -, q'⟩
        rw [supp_out (by have := hm.fits; omega)]
        exact ⟨rfl, went_low HW.out HB1.out ((HJ.out.mem.went.trans (Went.of_below hb9 ow2)).trans q')⟩
      go_wp2_with (first
        | (go_at_call 11; ((with_reducible refine (alive_any _).mono ?_); rintro e w9 ⟨rfl, hb9⟩); have HB9 := Lib.hid hb9; clear hb9)
        | (go_at_call 18; ((with_reducible refine (HEnd.out _ HB9.out).mono ?_); rintro e w10 ⟨rfl, hb10⟩); have HB10 := Lib.hid hb10; clear hb10))
      go_ret
      exact ⟨rfl, HB10.out⟩
end Go.Proofs.Ytdgjbbcalffbcaa
