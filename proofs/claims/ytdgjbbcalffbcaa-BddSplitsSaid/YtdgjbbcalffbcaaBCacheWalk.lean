/- The walk of BddCache. -/
import Derived.Test.YtdgjbbcalffbcaaBSameWalk
namespace Go.Proofs.Ytdgjbbcalffbcaa
open Go.RowKit
attribute [local go_sem ↓] Go.wp_at_zero Go.wp_at_succ

section
variable {lim i full full' : Nat} {L L' : List Nd} {f : Nat → Opn} {rl rl' : List Int} {Fl Fl' : List (Nat → Bool)}
theorem none_full12 (h : RunC 65536 [] L f i full rl Fl) (hR : RightL L) (hi : i ≤ 16) : full = 0 := by
  rcases Nat.eq_zero_or_pos full with h0 | h0
  · exact h0
  · have h1 := h.few 12
    rw [lowN_all (allV_12 hR)] at h1
    have h2 := h.fulls.2 h0
    have h3 : i * (2 ^ 12 - 1) ≤ 16 * 4095 := Nat.mul_le_mul hi (by decide)
    have h4 : lowN 12 ([] : List Nd) = 0 := rfl
    omega
end
/-- Two rows of refs that stand for the same functions. -/
structure Pair (La Lb : List Nd) (rl kl : List Int) (Fl : List (Nat → Bool)) : Prop where
  ra : RightL La
  ba : AllB La
  rb : RightL Lb
  bb : AllB Lb
  la : rl.length = Fl.length
  lb : kl.length = Fl.length
  ta : ∀ (j : Nat) r F, rl[j]? = some r → Fl[j]? = some F → Tells La F r
  tb : ∀ (j : Nat) r F, kl[j]? = some r → Fl[j]? = some F → Tells Lb F r
theorem Pair.at_ {La Lb : List Nd} {rl kl : List Int} {Fl : List (Nat → Bool)} (h : Pair La Lb rl kl Fl) {j : Nat} (hj : j < rl.length) : ∃ (r s : Int) (F : Nat → Bool), rl[j]? = some r ∧ kl[j]? = some s ∧ Tells La F r ∧ Tells Lb F s := by
  have h1 := h.la
  have h2 := h.lb
  have e1 : rl[j]? = some rl[j] := List.getElem?_eq_getElem hj
  have e2 : kl[j]? = some kl[j] := List.getElem?_eq_getElem (by omega)
  have e3 : Fl[j]? = some Fl[j] := List.getElem?_eq_getElem (by omega)
  exact ⟨_, _, _, e1, e2, h.ta j _ _ e1 e3, h.tb j _ _ e2 e3⟩
theorem Pair.same {La Lb : List Nd} {rl kl : List Int} {Fl : List (Nat → Bool)} (h : Pair La Lb rl kl Fl) {r s r' s' : Int} {F F' : Nat → Bool} (t1 : Tells La F r) (t2 : Tells Lb F s) (t3 : Tells La F' r') (t4 : Tells Lb F' s') : (r == r') = (s == s') := by
  rw [← refs_same h.ra h.ba t1 t3, ← refs_same h.rb h.bb t2 t4]
/-- Behind both runs. -/
structure TwoR (w : World) (ma mb : Nat) (La Lb : List Nd) (rl kl : List Int) (Fl : List (Nat → Bool)) (ga gb : Nat) (W : World) : Prop where
  low : Below w.heap.size w W
  pair : Pair La Lb rl kl Fl
  ma : ∃ oa, Mg W oa ma 65536 La
  mb : ∃ ob, Mg W ob mb 65536 Lb
  lt : ga < W.heap.size ∧ gb < W.heap.size
  ca : ∀ j r, rl[j]? = some r → W.cell? ⟨ga, j, none⟩ = some (.int .i64 r)
  cb : ∀ j r, kl[j]? = some r → W.cell? ⟨gb, j, none⟩ = some (.int .i64 r)
theorem TwoR.below {w W W1 : World} {ma mb : Nat} {La Lb : List Nd} {rl kl : List Int} {Fl : List (Nat → Bool)} {ga gb : Nat} (h : TwoR w ma mb La Lb rl kl Fl ga gb W) (hb : Below W.heap.size W W1) : TwoR w ma mb La Lb rl kl Fl ga gb W1 := by
  obtain ⟨oa, ha⟩ := h.ma
  obtain ⟨ob, hb'⟩ := h.mb
  exact ⟨h.low.trans (hb.mono h.low.size), h.pair, ⟨oa, ha.below hb⟩, ⟨ob, hb'.below hb⟩, ⟨Nat.lt_of_lt_of_le h.lt.1 hb.size, Nat.lt_of_lt_of_le h.lt.2 hb.size⟩, fun j r hj => (hb.cell (p := ⟨ga, j, none⟩) h.lt.1).trans (h.ca j r hj), fun j r hj => (hb.cell (p := ⟨gb, j, none⟩) h.lt.2).trans (h.cb j r hj)⟩
theorem row_cells {W : World} {base n g c : Nat} {rl : List Int} (hr : W.ownsRow base 3 1 (.slice (some ⟨g, 0, none⟩) n c) rl.length (rl.map (Value.int .i64))) (hn : n = rl.length) : ∀ j r, rl[j]? = some r → W.cell? ⟨g, j, none⟩ = some (.int .i64 r) := fun j r hj => by
  subst hn
  have := (List.getElem?_eq_some_iff.1 hj).1
  rw [hr.cellAt j (by omega), List.getElem?_map, hj]
  rfl
/-- b, behind a's run. -/
theorem mg_behind {w1 w2 w3 : World} {oa oa' ob : Nat → Prop} {ma mb : Nat} {Lb : List Nd} (hma : Mg w1 oa ma 65536 []) (hmb : Mg w2 ob mb 65536 Lb) (hob : ∀ i, ob i → w1.heap.size ≤ i) (hmbl : w1.heap.size ≤ mb) (q : Went oa w2 oa' w3) : Mg w3 ob mb 65536 Lb :=
  hmb.only q.1 (fun i hi hj => by have := hma.old i hj; have := hob i hi; omega) (fun hj => by have := hma.old mb hj; omega)
theorem two_done {w w1 w2 w3 w4 : World} {oa oa' ob ob' : Nat → Prop} {ma mb ml fa fb : Nat} {La Lb : List Nd} {f : Nat → Opn} {rl kl : List Int} {tl ul : List Value} {Fl Gl : List (Nat → Bool)} {ga ca gb cb : Nat} {va vb : Value}
    (hma : Mg w1 oa ma 65536 []) (hb1 : Below w.heap.size w w1) (hoa : ∀ i, oa i → w.heap.size ≤ i) (hmb : Mg w2 ob mb 65536 []) (hb2 : Below w1.heap.size w1 w2) (hob : ∀ i, ob i → w1.heap.size ≤ i)
    (hIa : RunI w2 oa ma 65536 [] f ml fa rl tl Fl La oa' (.slice (some ⟨ga, 0, none⟩) rl.length ca) va w3) (hIb : RunI w3 ob mb 65536 [] f ml fb kl ul Gl Lb ob' (.slice (some ⟨gb, 0, none⟩) kl.length cb) vb w4) (hml : ml ≤ 16) :
    fa = 0 ∧ fb = 0 ∧ kl.length = rl.length ∧ TwoR w ma mb La Lb rl kl Fl ga gb w4 := by
  have e1 := none_full12 hIa.plain hIa.mem.mg.right hml
  have e2 := none_full12 hIb.plain hIb.mem.mg.right hml
  have eF : Gl = Fl := by rw [hIa.plain.plain e1, hIb.plain.plain e2]
  subst eF
  have s1 := hIa.plain.same
  have s2 := hIb.plain.same
  have bs2 := hb2.size
  have dis : ∀ i, oa' i → ¬ ob i := fun i hi hj => by
    have h1 := hob i hj
    have h2 := hmb.old i hj
    rcases hIa.mem.went.2 i hi with h | h
    · have := hma.old i h; omega
    · omega
  have hmab := hma.old
  obtain ⟨cs, hmblk⟩ := hma.blk
  have hga := hIa.mem.rowL.lt ga rfl
  have farA : ¬ ob ga := fun hj => by have := hmb.old ga hj; omega
  have q := hIb.mem.went
  have hMa : Mg w4 oa' ma 65536 La := hIa.mem.mg.only q.1 dis (fun hj => by have := hob ma hj; have := hmblk.lt; omega)
  refine ⟨e1, e2, by omega, ⟨?_, ⟨hIa.mem.mg.right, hIa.mem.mg.bools, hIb.mem.mg.right, hIb.mem.mg.bools, s1, s2, hIa.plain.tells, hIb.plain.tells⟩, ⟨oa', hMa⟩, ⟨ob', hIb.mem.mg⟩, ⟨Nat.lt_of_lt_of_le hga.2 q.size, (hIb.mem.rowL.lt gb rfl).2⟩, fun j r hj => (q.cell hga.2 farA).trans (row_cells hIa.mem.rowL rfl j r hj), row_cells hIb.mem.rowL rfl⟩⟩
  have h12 : Below w.heap.size w w2 := hb1.trans (hb2.mono hb1.size)
  have h23 := went_low hoa h12 hIa.mem.went
  exact went_low (fun i hi => Nat.le_trans hb1.size (hob i hi)) h23 q
theorem keep_abcd {w w1 : World} (hb : Below w.heap.size w w1) {a b i k : Nat} {x y z u : Option Value} (h : (a < w.heap.size ∧ b < w.heap.size) ∧ w.cell? ⟨a, i, none⟩ = x ∧ w.cell? ⟨a, k, none⟩ = y ∧ w.cell? ⟨b, i, none⟩ = z ∧ w.cell? ⟨b, k, none⟩ = u) : (a < w1.heap.size ∧ b < w1.heap.size) ∧ w1.cell? ⟨a, i, none⟩ = x ∧ w1.cell? ⟨a, k, none⟩ = y ∧ w1.cell? ⟨b, i, none⟩ = z ∧ w1.cell? ⟨b, k, none⟩ = u := keep_four hb h
theorem keep_ab {w w1 : World} (hb : Below w.heap.size w w1) {a b i : Nat} {x z : Option Value} (h : (a < w.heap.size ∧ b < w.heap.size) ∧ w.cell? ⟨a, i, none⟩ = x ∧ w.cell? ⟨b, i, none⟩ = z) : (a < w1.heap.size ∧ b < w1.heap.size) ∧ w1.cell? ⟨a, i, none⟩ = x ∧ w1.cell? ⟨b, i, none⟩ = z :=
  ⟨⟨Nat.lt_of_lt_of_le h.1.1 hb.size, Nat.lt_of_lt_of_le h.1.2 hb.size⟩, (hb.cell (p := ⟨a, i, none⟩) h.1.1).trans h.2.1, (hb.cell (p := ⟨b, i, none⟩) h.1.2).trans h.2.2⟩
set_option maxRecDepth 100000 in
set_option maxHeartbeats 6400000 in
theorem cache_main (one two : Int) (f : Nat → Opn) (As : Option Addr) (ml cs : Nat) (w : World) (_h1 : -9223372036854775808 ≤ one ∧ one ≤ 9223372036854775807) (_h2 : -9223372036854775808 ≤ two ∧ two ≤ 9223372036854775807) (hm : ml ≤ 9223372036854775807) (_hmc : ml ≤ cs) (hO : Ops w As ml f) :
    Calls Try.prog 6 #[.int .i64 one, .int .i64 two, .slice As ml cs] w fun e w' => e = .returned (.bool true) ∧ Below w.heap.size w w' := by
  have HO := Lib.hid hO
  have mn := m_nil
  have mnn := m_nnil
  clear hO
  by_cases hfar : 16 < ml
  · have e0 : decide ((16 : Int) < (ml : Int)) = true := decide_eq_true (by omega)
    go_enter Try.func6, Try.ntmps6
    go_wp2_with (first
      | (go_at_call 10; ((with_reducible refine (new_any16 _ w).mono ?_); rintro e w1 ⟨m, own, rfl, hM, hb1, hw, -⟩); have HB1 := Lib.hid hb1; clear hb1 hM hw)
      | (go_at_call 10; ((with_reducible refine (new_any16 _ w1).mono ?_); rintro e w2 ⟨m2, own2, rfl, hM2, hb2, hw2, -⟩); have HB2 := Lib.hid (HB1.out.trans (hb2.mono HB1.out.size)); clear hb2 hM2 hw2)
      | (go_at_call 11; ((with_reducible refine (alive_any _).mono ?_); rintro e w9 ⟨rfl, hb9⟩); have HB9 := Lib.hid (HB2.out.trans (hb9.mono HB2.out.size)); clear hb9))
    go_ret
    exact ⟨rfl, HB9.out⟩
  have h16 : ml ≤ 16 := by omega
  have hml : ml ≤ 20 := by omega
  have H16 := Lib.hid h16
  have HML := Lib.hid hml
  have e0 : decide ((16 : Int) < (ml : Int)) = false := decide_eq_false (by omega)
  clear hfar
  go_enter Try.func6, Try.ntmps6
  go_wp2_with (first
    | (go_at_call 10; ((with_reducible refine (new_any16 _ w).mono ?_); rintro e w1 ⟨ma, oa, rfl, hM, hb1, hw, -⟩); have HMa := Lib.hid hM; have HB1 := Lib.hid hb1; have HWa := Lib.hid hw; clear hM hb1 hw)
    | (go_at_call 10; ((with_reducible refine (new_any16 _ w1).mono ?_); rintro e w2 ⟨mb, ob, rfl, hM, hb2, hw, hmb⟩); have HMb := Lib.hid hM; have HB2 := Lib.hid hb2; have HWb := Lib.hid hw; have HMl := Lib.hid hmb; have HB12 := Lib.hid (HB1.out.trans (hb2.mono HB1.out.size)); have HMa2 := Lib.hid (HMa.out.below hb2); have HWb0 : Hid (∀ i, ob i → w.heap.size ≤ i) := Lib.hid (fun i hi => Nat.le_trans HB1.out.size (hw i hi)); clear hM hb2 hw hmb)
    | (go_at_call 12; ((with_reducible refine (run_law HMa2.out HB12.out HWa.out HO.out HML.out).mono ?_); rintro e w3 ⟨fa, rl, tl, Fl, La, oa', vl, vt, rfl, hI⟩); (obtain ⟨ga, ca, gt, ct, e8, e9⟩ := hI.form); subst e8; subst e9; have HIa := Lib.hid hI; have HMb3 := Lib.hid (mg_behind HMa.out HMb.out HWb.out HMl.out hI.mem.went); have HB3 := Lib.hid (went_low HWa.out HB12.out hI.mem.went); clear hI)
    | (go_at_call 12; ((with_reducible refine (run_law HMb3.out HB3.out HWb0.out HO.out HML.out).mono ?_); rintro e w4 ⟨fb, kl, ul, Gl, Lb, ob', vl, vt, rfl, hI⟩); (obtain ⟨gb, cb, gu, cu, e8, e9⟩ := hI.form); have hI2 := hI; rw [e8, e9] at hI2; (obtain ⟨e1, e2, e3, hT⟩ := two_done HMa.out HB1.out HWa.out HMb.out HB2.out HWb.out HIa.out hI2 H16.out); rw [e3] at e8 e9; subst e8; subst e9; subst e1; subst e2; have HT := Lib.hid hT; clear hT hI hI2 e3))
  have hlen := HIa.out.len2
  go_loopg [89] rl.length (fun gk t89 wr => ∃ i : Nat, i + gk = rl.length ∧ t89 = .int .i64 (i : Int) ∧ Below w4.heap.size w4 wr)
  case atStart => exact ⟨0, by omega, rfl, Below.refl _ _⟩
  case round =>
    rename Nat => g0
    obtain ⟨i, hgi, rfl, hb⟩ := hrel
    have HB := Lib.hid hb
    have HG := Lib.hid hgi
    clear hb hgi
    by_cases hin : i < rl.length
    · go_wp2_with fail
      obtain ⟨wo, hwo⟩ : ∃ wo, wo = wr := ⟨_, rfl⟩
      rw [← hwo] at HB
      rw [← hwo]
      clear hwo
      go_loopg [93] i (fun gk t93 wq => ∃ k : Nat, k + gk = i ∧ t93 = .int .i64 (k : Int) ∧ Below wo.heap.size wo wq)
      case atStart => exact ⟨0, by omega, rfl, Below.refl _ _⟩
      case round =>
        rename Nat => g1
        obtain ⟨k, hgk, rfl, hbk⟩ := hrel
        have HBk := Lib.hid (HB.out.trans (hbk.mono HB.out.size))
        have HBo := Lib.hid hbk
        have HGk := Lib.hid hgk
        clear hbk hgk
        by_cases hki : k < i
        · have hbd : Below w4.heap.size w4 wr.drew := HBk.out.drew
          have hT := HT.out.below hbd
          obtain ⟨r1, s1, F1, x1, y1, ta1, tb1⟩ := hT.pair.at_ (j := i) hin
          obtain ⟨r2, s2, F2, x2, y2, ta2, tb2⟩ := hT.pair.at_ (j := k) (by omega)
          have hsame := hT.pair.same ta1 tb1 ta2 tb2
          obtain ⟨d, hd⟩ : ∃ d, (r1 == r2) = d := ⟨_, rfl⟩
          rw [hd] at hsame
          have K0 : Hid ((ga < wr.drew.heap.size ∧ gb < wr.drew.heap.size) ∧ wr.drew.cell? ⟨ga, i, none⟩ = some (.int .i64 r1) ∧ wr.drew.cell? ⟨ga, k, none⟩ = some (.int .i64 r2) ∧ wr.drew.cell? ⟨gb, i, none⟩ = some (.int .i64 s1) ∧ wr.drew.cell? ⟨gb, k, none⟩ = some (.int .i64 s2)) := Lib.hid ⟨hT.lt, hT.ca i r1 x1, hT.ca k r2 x2, hT.cb i s1 y1, hT.cb k s2 y2⟩
          have HD := Lib.hid (show Below wo.heap.size wo wr.drew from HBo.out.drew)
          have hkn : k < rl.length := by omega
          have E1 : decide (r1 = r2) = d := hd
          have E2 : decide (s1 = s2) = d := hsame.symm
          have E3 : (r1 == r2) = d := hd
          have E4 : (s1 == s2) = d := hsame.symm
          clear hbd hT x1 y1 ta1 tb1 x2 y2 ta2 tb2 hsame hd
          cases d
          all_goals
            go_wp2_with fail
            go_region_held3 (fun w => ((ga < w.heap.size ∧ gb < w.heap.size) ∧ w.cell? ⟨ga, i, none⟩ = some (.int .i64 r1) ∧ w.cell? ⟨ga, k, none⟩ = some (.int .i64 r2) ∧ w.cell? ⟨gb, i, none⟩ = some (.int .i64 s1) ∧ w.cell? ⟨gb, k, none⟩ = some (.int .i64 s2)))
              (first | (with_reducible exact K0.out))
              (first | fail)
            go_wp2_with fail
            have hGk := HGk.out
            go_roundg (g1 - 1)
            case measure => omega
            case rel => exact ⟨k + 1, by omega, by go_num, HD.out⟩
        · go_wp2_with fail
          obtain ⟨wp, hwp⟩ : ∃ wp, wp = wr := ⟨_, rfl⟩
          rw [← hwp] at HBk
          rw [← hwp]
          clear hwp HBo
          go_loopg [116] 4096 (fun gk t116 wq => ∃ k : Nat, k + gk = 4096 ∧ t116 = .int .i64 (k : Int) ∧ Below wp.heap.size wp wq)
          case atStart => exact ⟨0, by omega, rfl, Below.refl _ _⟩
          case round =>
            rename Nat => g2
            obtain ⟨n, hgn, rfl, hbn⟩ := hrel
            have HBn := Lib.hid (HBk.out.trans (hbn.mono HBk.out.size))
            have HBp := Lib.hid hbn
            have HGn := Lib.hid hgn
            clear hbn hgn
            by_cases hn4 : n < 4096
            · have hbd : Below w4.heap.size w4 wr.drew := HBn.out.drew
              have hT := HT.out.below hbd
              obtain ⟨r1, s1, F1, x1, y1, ta1, tb1⟩ := hT.pair.at_ (j := i) hin
              obtain ⟨x, hx⟩ : ∃ x, F1 n = x := ⟨_, rfl⟩
              have HEa : Hid (∀ w1, Below wr.drew.heap.size wr.drew w1 → Calls Try.prog 17 #[.pointer (some ⟨ma, 0, none⟩), .int .i64 r1, .int .u64 (n : Nat)] w1 fun e w' => e = .returned (.bool x) ∧ Below wr.drew.heap.size wr.drew w') := Lib.hid fun w1 h1 => by
                obtain ⟨o, hM⟩ := hT.ma
                refine (eval_any (hM.below h1) r1 (b := n) (by omega)).mono ?_
                rintro e w' ⟨rfl, h2⟩
                exact ⟨by rw [ta1.2 n, hx], h1.trans (h2.mono h1.size)⟩
              have HEb : Hid (∀ w1, Below wr.drew.heap.size wr.drew w1 → Calls Try.prog 17 #[.pointer (some ⟨mb, 0, none⟩), .int .i64 s1, .int .u64 (n : Nat)] w1 fun e w' => e = .returned (.bool x) ∧ Below wr.drew.heap.size wr.drew w') := Lib.hid fun w1 h1 => by
                obtain ⟨o, hM⟩ := hT.mb
                refine (eval_any (hM.below h1) s1 (b := n) (by omega)).mono ?_
                rintro e w' ⟨rfl, h2⟩
                exact ⟨by rw [tb1.2 n, hx], h1.trans (h2.mono h1.size)⟩
              have K0 : Hid ((ga < wr.drew.heap.size ∧ gb < wr.drew.heap.size) ∧ wr.drew.cell? ⟨ga, i, none⟩ = some (.int .i64 r1) ∧ wr.drew.cell? ⟨gb, i, none⟩ = some (.int .i64 s1)) := Lib.hid ⟨hT.lt, hT.ca i r1 x1, hT.cb i s1 y1⟩
              have HD := Lib.hid (show Below wp.heap.size wp wr.drew from HBp.out.drew)
              have HR := Lib.hid (Below.refl wr.drew.heap.size wr.drew)
              clear hbd hT x1 y1 ta1 tb1 hx
              have h64 : IntKind.u64.wrap ((n : Nat) : Int) = (n : Int) := IntWalk.u64_in _ (by omega)
              cases x
              all_goals
                go_wp2_with fail
                go_region_held3 (fun w => ((ga < w.heap.size ∧ gb < w.heap.size) ∧ w.cell? ⟨ga, i, none⟩ = some (.int .i64 r1) ∧ w.cell? ⟨gb, i, none⟩ = some (.int .i64 s1)))
                  (first | (with_reducible exact K0.out) | (with_reducible exact keep_ab hb5 K0.out))
                  (first
                    | (go_at_call 17; ((with_reducible refine (HEa.out _ HR.out).mono ?_); rintro e w5 ⟨rfl, hb5⟩))
                    | (go_at_call 17; ((with_reducible refine (HEb.out _ HR.out).mono ?_); rintro e w5 ⟨rfl, hb5⟩))
                    | (go_at_call 17; ((with_reducible refine (HEa.out _ hb5).mono ?_); rintro e w5 ⟨rfl, hb5⟩))
                    | (go_at_call 17; ((with_reducible refine (HEb.out _ hb5).mono ?_); rintro e w5 ⟨rfl, hb5⟩)))
                have H5 := Lib.hid (HD.out.trans (hb5.mono HD.out.size))
                clear hb5 h64
                go_wp2_with fail
                have hGn := HGn.out
                go_roundg (g2 - 1)
                case measure => omega
                case rel => exact ⟨n + 1, by omega, by go_num, H5.out⟩
            · go_wp2_with fail
              have hG0 := HG.out
              go_roundg (g0 - 1)
              case measure => omega
              case rel => exact ⟨i + 1, by omega, by go_num, HBn.out⟩
    · have hLow := HT.out.low.trans (HB.out.mono HT.out.low.size)
      have HLow := Lib.hid hLow
      clear hLow
      go_wp2_with (go_at_call 11; ((with_reducible refine (alive_any _).mono ?_); rintro e w9 ⟨rfl, hb9⟩); have HB9 := Lib.hid (HLow.out.trans (hb9.mono HLow.out.size)); clear hb9)
      go_ret
      exact ⟨rfl, HB9.out⟩
end Go.Proofs.Ytdgjbbcalffbcaa
