/- The walk of BddFull. -/
import Derived.Test.YtdgjbbcalffbcaaBAllWalk
namespace Go.Proofs.Ytdgjbbcalffbcaa
open Go.RowKit
attribute [local go_sem ↓] Go.wp_at_zero Go.wp_at_succ

theorem arena_lenB {W : World} {own : Nat → Prop} {m lim : Nat} {L : List Nd} (hM : Mg W own m lim L) : ∃ p, Calls Try.prog 15 #[.pointer (some ⟨m, 0, none⟩)] W (RetW (.pointer (some ⟨p, 0, none⟩)) W) ∧ Calls Try.prog 16 #[.pointer (some ⟨p, 0, none⟩)] W (RetW (.int .i64 L.length) W) := by
  obtain ⟨p, h1, ownA, P, T, An, Ap, cn, cp, hR, -⟩ := arenaA_any hM
  exact ⟨p, h1, len_any hR.c1⟩
set_option maxRecDepth 100000 in
set_option maxHeartbeats 6400000 in
theorem full_main (limit cache : Int) (f : Nat → Opn) (As : Option Addr) (ml cs : Nat) (w : World) (hlim : -9223372036854775808 ≤ limit ∧ limit ≤ 9223372036854775807) (_hc : -9223372036854775808 ≤ cache ∧ cache ≤ 9223372036854775807) (hm : ml ≤ 9223372036854775807) (_hmc : ml ≤ cs) (hO : Ops w As ml f) :
    Calls Try.prog 5 #[.int .i64 limit, .int .i64 cache, .slice As ml cs] w fun e w' => e = .returned (.bool true) ∧ Below w.heap.size w w' := by
  have HO := Lib.hid hO
  have mn := m_nil
  have mnn := m_nnil
  have HNew := Lib.hid (fun w => New_any limit cache hlim w)
  clear hO hlim
  by_cases hfar : 20 < ml ∨ 65536 < limit
  · rcases (show decide ((20 : Int) < (ml : Int)) = true ∨ (decide ((20 : Int) < (ml : Int)) = false ∧ decide (65536 < limit) = true) by simp; omega) with e0 | ⟨e0, e1⟩
    all_goals
      clear hfar
      go_enter Try.func5, Try.ntmps5
      go_wp2_with (first
        | (go_at_call 10; ((with_reducible refine (HNew.out _).mono ?_); rintro e w1 ⟨m, own, rfl, hM, hb1, hw, -⟩); have HB1 := Lib.hid hb1; clear hb1)
        | (go_at_call 11; ((with_reducible refine (alive_any _).mono ?_); rintro e w9 ⟨rfl, hb9⟩); have HB9 := Lib.hid (HB1.out.trans (hb9.mono HB1.out.size)); clear hb9))
      go_ret
      exact ⟨rfl, HB9.out⟩
  have hml : ml ≤ 20 := by omega
  have HML := Lib.hid hml
  have e0 : decide ((20 : Int) < (ml : Int)) = false := decide_eq_false (by omega)
  have e1 : decide (65536 < limit) = false := decide_eq_false (by omega)
  obtain ⟨lim, hlm⟩ : ∃ lim, limit.toNat = lim := ⟨_, rfl⟩
  rw [hlm] at HNew
  have HLim : Hid (lim ≤ 65536 ∧ max limit 0 = (lim : Int)) := Lib.hid (by omega)
  clear hfar hlm
  go_enter Try.func5, Try.ntmps5
  go_wp2_with (first
    | (go_at_call 10; ((with_reducible refine (HNew.out _).mono ?_); rintro e w1 ⟨m, own, rfl, hM, hb1, hw, -⟩); have HM := Lib.hid hM; have HB1 := Lib.hid hb1; have HW := Lib.hid hw; clear hM hb1 hw)
    | (go_at_call 12; ((with_reducible refine (run_law HM.out HB1.out HW.out HO.out HML.out HLim.out.1).mono ?_); rintro e w2 ⟨full, rl, tl, Fl, L, ow, vl, vt, rfl, hI⟩); (obtain ⟨gl, cl, gt, ct, e8, e9⟩ := hI.form); subst e8; subst e9; have HI := Lib.hid hI; (obtain ⟨pa, hp1, hp2⟩ := arena_lenB hI.mem.mg); have HP1 := Lib.hid hp1; have HP2 := Lib.hid hp2; have hd : decide (max limit 0 < (L.length : Int)) = false := decide_eq_false (by have := hI.mem.mg.fits; have := HLim.out.2; omega); clear hI hp1 hp2)
    | (go_at_call 15; ((with_reducible refine HP1.out.mono ?_); rintro e w9 ⟨rfl, rfl⟩))
    | (go_at_call 16; ((with_reducible refine HP2.out.mono ?_); rintro e w9 ⟨rfl, rfl⟩)))
  go_loopg [52] rl.length (fun gk t52 wq => ∃ (j : Nat) (ow2 : Nat → Prop), j + gk = rl.length ∧ t52 = .int .i64 (j : Int) ∧ RunI w1 own m lim [] f ml full rl tl Fl L ow2 (.slice (some ⟨gl, 0, none⟩) rl.length cl) (.slice (some ⟨gt, 0, none⟩) rl.length ct) wq)
  case atStart => exact ⟨0, ow, by omega, rfl, HI.out⟩
  case round =>
    rename Nat => g1
    obtain ⟨j, ow2, hgj, rfl, hJ⟩ := hrel
    have HJ := Lib.hid hJ
    have HGj := Lib.hid hgj
    have hlen := hJ.len2
    clear hJ hgj
    by_cases hjn : j < rl.length
    · obtain ⟨r, F, gv, cv, -, -, htl, htb, hsz, c1, c2, hno, hnv⟩ := HJ.out.at_ hjn
      have hbd : Below wr.heap.size wr wr.drew := (Below.refl _ _).drew
      have HSay := Lib.hid (says_any (HJ.out.mem.mg.below hbd) (htb.below hbd) htl)
      have K0 : Hid ((gl < wr.drew.heap.size ∧ gt < wr.drew.heap.size) ∧ wr.drew.cell? ⟨gl, j, none⟩ = some (.int .i64 r) ∧ wr.drew.cell? ⟨gt, j, none⟩ = some (.slice (some ⟨gv, 0, none⟩) 4096 cv)) := Lib.hid ⟨hsz, c1, c2⟩
      have HNo := Lib.hid hno
      have HQd := Lib.hid (Went.of_below hbd ow2)
      clear htl htb hsz c1 c2 hno hnv hbd
      go_wp2_with fail
      go_region_held3 (fun w => ((gl < w.heap.size ∧ gt < w.heap.size) ∧ w.cell? ⟨gl, j, none⟩ = some (.int .i64 r) ∧ w.cell? ⟨gt, j, none⟩ = some (.slice (some ⟨gv, 0, none⟩) 4096 cv)))
        (first | (with_reducible exact K0.out) | (with_reducible exact went_two q4 HNo.out K0.out))
        (first | (go_at_call 13; ((with_reducible refine HSay.out.mono ?_); rintro e w4 ⟨ow4, rfl, m4, q4⟩)))
      go_wp2_with fail
      have HJ4 := Lib.hid (HJ.out.moveS (HQd.out.trans q4) m4)
      have hG1 := HGj.out
      go_roundg (g1 - 1)
      case measure => omega
      case rel => exact ⟨j + 1, ow4, by omega, by go_num, HJ4.out⟩
    · have hje : j = rl.length := by have := HGj.out; omega
      subst hje
      have HLow := Lib.hid (went_low HW.out HB1.out HJ.out.mem.went)
      go_wp2_with (go_at_call 11; ((with_reducible refine (alive_any _).mono ?_); rintro e w9 ⟨rfl, hb9⟩); have HB9 := Lib.hid (HLow.out.trans (hb9.mono HLow.out.size)); clear hb9)
      go_ret
      exact ⟨rfl, HB9.out⟩
end Go.Proofs.Ytdgjbbcalffbcaa
