/- The walk of BddSame; the document's Same. -/
import Derived.Test.YtdgjbbcalffbcaaBAllWalk
namespace Go.Proofs.Ytdgjbbcalffbcaa
open Go.RowKit
attribute [local go_sem ↓] Go.wp_at_zero Go.wp_at_succ

noncomputable def sameB (F G : Nat → Bool) : Bool := @decide (∀ n, n < 4096 → F n = G n) (Classical.propDecidable _)
theorem sameB_yes {F G : Nat → Bool} (h : ∀ n, n < 4096 → F n = G n) : sameB F G = true := @decide_eq_true _ (Classical.propDecidable _) h
theorem sameB_no {F G : Nat → Bool} (h : ¬ ∀ n, n < 4096 → F n = G n) : sameB F G = false := @decide_eq_false _ (Classical.propDecidable _) h
set_option maxRecDepth 100000 in
set_option maxHeartbeats 1600000 in
theorem same_any {W : World} {ga ca gb cb : Nat} {Fa Fb : Nat → Bool} (ha : Tab W (.slice (some ⟨ga, 0, none⟩) 4096 ca) Fa) (hb : Tab W (.slice (some ⟨gb, 0, none⟩) 4096 cb) Fb) : Calls Try.prog 14 #[.slice (some ⟨ga, 0, none⟩) 4096 ca, .slice (some ⟨gb, 0, none⟩) 4096 cb] W fun e w' => e = .returned (.bool (sameB Fa Fb)) ∧ Below W.heap.size W w' := by
  have HA : Hid (∀ w, Below W.heap.size W w → ∀ j, j < 4096 → w.cell? ⟨ga, j, none⟩ = some (.bool (Fa j))) := Lib.hid fun w hw j hj => by
    obtain ⟨g, c, e, -, h⟩ := ha.below hw
    injection e with e; injection e with e; injection e with e
    subst e; exact h j hj
  have HB : Hid (∀ w, Below W.heap.size W w → ∀ j, j < 4096 → w.cell? ⟨gb, j, none⟩ = some (.bool (Fb j))) := Lib.hid fun w hw j hj => by
    obtain ⟨g, c, e, -, h⟩ := hb.below hw
    injection e with e; injection e with e; injection e with e
    subst e; exact h j hj
  clear ha hb
  go_enter Try.func14, Try.ntmps14
  go_wp2_with fail
  go_loopg [5] 4096 (fun gk t5 wr => ∃ j : Nat, j + gk = 4096 ∧ t5 = .int .i64 (j : Int) ∧ Below W.heap.size W wr ∧ ∀ n, n < j → Fa n = Fb n)
  case atStart => exact ⟨0, by omega, rfl, Below.refl _ _, fun n hn => absurd hn (by omega)⟩
  case round =>
    obtain ⟨j, hj, rfl, hbw, hs⟩ := hrel
    have HBw := Lib.hid hbw
    have HS := Lib.hid hs
    have HJ := Lib.hid hj
    by_cases hj4 : j < 4096
    · have hbd : Below W.heap.size W wr.drew := hbw.drew
      have ka := HA.out wr.drew hbd j hj4
      have kb := HB.out wr.drew hbd j hj4
      obtain ⟨x, hx⟩ : ∃ x, Fa j = x := ⟨_, rfl⟩
      obtain ⟨y, hy⟩ : ∃ y, Fb j = y := ⟨_, rfl⟩
      rw [hx] at ka
      rw [hy] at kb
      have HD := Lib.hid hbd
      have HX := Lib.hid hx
      have HY := Lib.hid hy
      clear hbd hx hy hbw hs hj
      have ka' : wr.cell? ⟨ga, j, none⟩ = some (.bool x) := ka
      have kb' : wr.cell? ⟨gb, j, none⟩ = some (.bool y) := kb
      by_cases hxy : x = y
      · subst hxy
        have HE : Hid (Fa j = Fb j) := Lib.hid (HX.out.trans HY.out.symm)
        cases x
        all_goals
          go_wp2_with fail
          go_region
          all_goals
            go_wp2_with fail
            have hJ := HJ.out
            go_roundg (gk - 1)
            case measure => omega
            case rel => exact ⟨j + 1, by omega, by go_num, HD.out, fun n hn => by
              rcases (show n < j ∨ n = j by omega) with h | rfl
              · exact HS.out n h
              · exact HE.out⟩
      · have HV : Hid (sameB Fa Fb = false) := Lib.hid (sameB_no fun h => hxy (HX.out.symm.trans ((h j hj4).trans HY.out)))
        cases x <;> cases y
        · exact absurd rfl hxy
        · clear hxy
          go_wp2_with fail
          go_region
          all_goals
            go_wp2_with fail
            go_ret
            rw [HV.out]
            exact ⟨rfl, HD.out⟩
        · clear hxy
          go_wp2_with fail
          go_region
          all_goals
            go_wp2_with fail
            go_ret
            rw [HV.out]
            exact ⟨rfl, HD.out⟩
        · exact absurd rfl hxy
    · have hj4' : j = 4096 := by omega
      have HV : Hid (sameB Fa Fb = true) := Lib.hid (sameB_yes fun n hn => hs n (by omega))
      clear hbw hs hj
      go_wp2_with fail
      go_ret
      rw [HV.out]
      exact ⟨rfl, HBw.out⟩
theorem keep_four {w w1 : World} (hb : Below w.heap.size w w1) {a b i k : Nat} {x y z u : Option Value} (h : (a < w.heap.size ∧ b < w.heap.size) ∧ w.cell? ⟨a, i, none⟩ = x ∧ w.cell? ⟨a, k, none⟩ = y ∧ w.cell? ⟨b, i, none⟩ = z ∧ w.cell? ⟨b, k, none⟩ = u) : (a < w1.heap.size ∧ b < w1.heap.size) ∧ w1.cell? ⟨a, i, none⟩ = x ∧ w1.cell? ⟨a, k, none⟩ = y ∧ w1.cell? ⟨b, i, none⟩ = z ∧ w1.cell? ⟨b, k, none⟩ = u :=
  ⟨⟨Nat.lt_of_lt_of_le h.1.1 hb.size, Nat.lt_of_lt_of_le h.1.2 hb.size⟩, (hb.cell (p := ⟨a, i, none⟩) h.1.1).trans h.2.1, (hb.cell (p := ⟨a, k, none⟩) h.1.1).trans h.2.2.1, (hb.cell (p := ⟨b, i, none⟩) h.1.2).trans h.2.2.2.1, (hb.cell (p := ⟨b, k, none⟩) h.1.2).trans h.2.2.2.2⟩
theorem refs_same {L : List Nd} (hR : RightL L) (hA : AllB L) {F G : Nat → Bool} {r s : Int} (h : Tells L F r) (g : Tells L G s) : sameB F G = (r == s) := by
  by_cases e : r = s
  · subst e
    rw [sameB_yes fun n _ => (h.2 n).symm.trans (g.2 n)]
    simp
  · rw [sameB_no fun hn => e (same_of_fn hR hA h.1 g.1 fun b hb => (h.2 b).trans ((hn b hb).trans (g.2 b).symm))]
    simp [e]
set_option maxRecDepth 100000 in
set_option maxHeartbeats 6400000 in
theorem same_main (cache : Int) (f : Nat → Opn) (As : Option Addr) (ml cs : Nat) (w : World) (_hc : -9223372036854775808 ≤ cache ∧ cache ≤ 9223372036854775807) (hm : ml ≤ 9223372036854775807) (_hmc : ml ≤ cs) (hO : Ops w As ml f) :
    Calls Try.prog 4 #[.int .i64 cache, .slice As ml cs] w fun e w' => e = .returned (.bool true) ∧ Below w.heap.size w w' := by
  have HO := Lib.hid hO
  have mn := m_nil
  have mnn := m_nnil
  clear hO
  by_cases hfar : 16 < ml
  · have e0 : decide ((16 : Int) < (ml : Int)) = true := decide_eq_true (by omega)
    go_enter Try.func4, Try.ntmps4
    go_wp2_with (first
      | (go_at_call 10; ((with_reducible refine (new_any16 _ _).mono ?_); rintro e w1 ⟨m, own, rfl, hM, hb1, hw, -⟩); have HB1 := Lib.hid hb1; clear hb1)
      | (go_at_call 11; ((with_reducible refine (alive_any _).mono ?_); rintro e w9 ⟨rfl, hb9⟩); have HB9 := Lib.hid (HB1.out.trans (hb9.mono HB1.out.size)); clear hb9))
    go_ret
    exact ⟨rfl, HB9.out⟩
  have hml : ml ≤ 20 := by omega
  have HML := Lib.hid hml
  have e0 : decide ((16 : Int) < (ml : Int)) = false := decide_eq_false (by omega)
  clear hfar
  go_enter Try.func4, Try.ntmps4
  go_wp2_with (first
    | (go_at_call 10; ((with_reducible refine (new_any16 _ _).mono ?_); rintro e w1 ⟨m, own, rfl, hM, hb1, hw, -⟩); have HM := Lib.hid hM; have HB1 := Lib.hid hb1; have HW := Lib.hid hw; clear hM hb1 hw)
    | (go_at_call 12; ((with_reducible refine (run_law HM.out HB1.out HW.out HO.out HML.out).mono ?_); rintro e w2 ⟨full, rl, tl, Fl, L, ow, vl, vt, rfl, hI⟩); (obtain ⟨gl, cl, gt, ct, e8, e9⟩ := hI.form); subst e8; subst e9; have HI := Lib.hid hI; clear hI))
  have HL2 := Lib.hid (went_low HW.out HB1.out HI.out.mem.went)
  have hlen := HI.out.len2
  go_loopg [38] rl.length (fun gk t38 wr => ∃ i : Nat, i + gk = rl.length ∧ t38 = .int .i64 (i : Int) ∧ Below w2.heap.size w2 wr)
  case atStart => exact ⟨0, by omega, rfl, Below.refl _ _⟩
  case round =>
    rename Nat => g0
    obtain ⟨i, hgi, rfl, hb⟩ := hrel
    have HB := Lib.hid hb
    have HG := Lib.hid hgi
    clear hb hgi
    by_cases hin : i < rl.length
    · go_wp2_with fail
      obtain ⟨wo, hwo⟩ : ∃ wo, wo = wr := ⟨_, rfl⟩
      rw [← hwo] at HB
      rw [← hwo]
      clear hwo
      go_loopg [42] i (fun gk t42 wq => ∃ k : Nat, k + gk = i ∧ t42 = .int .i64 (k : Int) ∧ Below wo.heap.size wo wq)
      case atStart => exact ⟨0, by omega, rfl, Below.refl _ _⟩
      case round =>
        rename Nat => g1
        obtain ⟨k, hgk, rfl, hbk⟩ := hrel
        have HBk := Lib.hid (HB.out.trans (hbk.mono HB.out.size))
        have HBo := Lib.hid hbk
        have HGk := Lib.hid hgk
        clear hbk hgk
        by_cases hki : k < i
        · have hbd : Below w2.heap.size w2 wr.drew := HBk.out.drew
          have hJ := HI.out.below hbd
          obtain ⟨r1, F1, g1', c1, -, -, ht1, hx1, hsz, a1, b1, -⟩ := hJ.at_ (j := i) hin
          obtain ⟨r2, F2, g2', c2, -, -, ht2, hx2, -, a2, b2, -⟩ := hJ.at_ (j := k) (by omega)
          have hsame := same_any hx1 hx2
          rw [refs_same hJ.mem.mg.right hJ.mem.mg.bools ht1 ht2] at hsame
          obtain ⟨d, hd⟩ : ∃ d, (r1 == r2) = d := ⟨_, rfl⟩
          rw [hd] at hsame
          have HSame := Lib.hid hsame
          have K0 : Hid ((gl < wr.drew.heap.size ∧ gt < wr.drew.heap.size) ∧ wr.drew.cell? ⟨gl, i, none⟩ = some (.int .i64 r1) ∧ wr.drew.cell? ⟨gl, k, none⟩ = some (.int .i64 r2) ∧ wr.drew.cell? ⟨gt, i, none⟩ = some (.slice (some ⟨g1', 0, none⟩) 4096 c1) ∧ wr.drew.cell? ⟨gt, k, none⟩ = some (.slice (some ⟨g2', 0, none⟩) 4096 c2)) := Lib.hid ⟨hsz, a1, a2, b1, b2⟩
          have HD := Lib.hid (show Below wo.heap.size wo wr.drew from HBo.out.drew)
          clear hbd hJ ht1 ht2 hx1 hx2 hsz a1 a2 b1 b2 hsame
          have hkn : k < rl.length := by omega
          cases d
          all_goals
            go_wp2_with fail
            go_region_held3 (fun w => ((gl < w.heap.size ∧ gt < w.heap.size) ∧ w.cell? ⟨gl, i, none⟩ = some (.int .i64 r1) ∧ w.cell? ⟨gl, k, none⟩ = some (.int .i64 r2) ∧ w.cell? ⟨gt, i, none⟩ = some (.slice (some ⟨g1', 0, none⟩) 4096 c1) ∧ w.cell? ⟨gt, k, none⟩ = some (.slice (some ⟨g2', 0, none⟩) 4096 c2)))
              (first | (with_reducible exact K0.out) | (with_reducible exact keep_four hb4 K0.out))
              (first | (go_at_call 14; ((with_reducible refine HSame.out.mono ?_); rintro e w4 ⟨rfl, hb4⟩)))
            have H4 := Lib.hid (HD.out.trans (hb4.mono HD.out.size))
            clear hb4
            go_wp2_with fail
            have hGk := HGk.out
            go_roundg (g1 - 1)
            case measure => omega
            case rel => exact ⟨k + 1, by omega, by go_num, H4.out⟩
        · go_wp2_with fail
          have hG0 := HG.out
          go_roundg (g0 - 1)
          case measure => omega
          case rel => exact ⟨i + 1, by omega, by go_num, HBk.out⟩
    · have hLow := HL2.out.trans (HB.out.mono HL2.out.size)
      have HLow := Lib.hid hLow
      clear hLow
      go_wp2_with (go_at_call 11; ((with_reducible refine (alive_any _).mono ?_); rintro e w9 ⟨rfl, hb9⟩); have HB9 := Lib.hid (HLow.out.trans (hb9.mono HLow.out.size)); clear hb9)
      go_ret
      exact ⟨rfl, HB9.out⟩
end Go.Proofs.Ytdgjbbcalffbcaa
