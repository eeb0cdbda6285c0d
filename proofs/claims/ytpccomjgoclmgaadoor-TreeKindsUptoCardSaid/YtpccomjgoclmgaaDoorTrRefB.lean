/- The tree layer: the document's SameStmts. -/
import Derived.Test.YtpccomjgoclmgaaDoorTrRefE
namespace Go.Proofs.YtpccomjgoclmgaaDoor
open Go.RowKit
theorem ExR.at {P : Nat → Prop} {n : Nat} {w : World} {l : List Ex} {A : Option Addr} {m c : Nat} (h : ExR P n w l (.slice A m c)) : ∀ (i : Nat) (x : Ex), l[i]? = some x → ∃ b off L, A = some ⟨b, off, none⟩ ∧ P b ∧ At5 w b (off + i * 5) x L ∧ In64 x.n ∧ In64 x.a ∧ ExR P (n - 1) w x.l L := by
  cases n with
  | zero => exact h.elim
  | succ n =>
    obtain ⟨A', cap, e, -, -, h4⟩ := h
    injection e with e1 e2 e3
    subst e1
    exact h4
section
set_option maxRecDepth 100000 in
set_option maxHeartbeats 25600000 in
theorem rblkEq_any (n : Nat) : ∀ (l r : List St) (v u : Value) (P : Nat → Prop) (W : World), StR P n W l v → StR P n W r u → (∀ b, P b → b < W.heap.size) → Calls Tryd.prog 25 #[v, u] W (fun e w' => e = .returned (.bool (sameB l r)) ∧ Below W.heap.size W w') := by
  induction n with
  | zero => intro l r v u P W h; exact h.elim
  | succ n ih =>
    intro l r v u P W hv hu hP
    obtain ⟨A1, cap1, rfl, hc1, hl1, hat1⟩ := hv
    obtain ⟨A2, cap2, rfl, hc2, hl2, hat2⟩ := hu
    have HIH := Lib.hid ih
    have HA1 := Lib.hid hat1
    have HA2 := Lib.hid hat2
    have hl3 : l.length ≤ 140737488355328 := by omega
    have hl4 : r.length ≤ 140737488355328 := by omega
    clear hat1 hat2 hl1 hl2 ih
    by_cases hlen : l.length = r.length
    · have hneq : ((l.length : Int) != (r.length : Int)) = false := by rw [hlen]; simp
      obtain ⟨m, hm⟩ : ∃ m, r.length = m := ⟨_, rfl⟩
      rw [hm] at hlen hneq hl4 hc2 ⊢
      have HM1 := Lib.hid hlen
      have HM2 := Lib.hid hm
      rw [hlen] at hl3 hc1 hneq ⊢
      clear hm hlen
      go_enter Tryd.func25, Tryd.ntmps25
      go_wp2
      go_loopw [5] (fun i wr => ∃ k : Nat, i = .int .i64 (k : Int) ∧ k ≤ m ∧ Hid (sameB (l.drop k) (r.drop k) = sameB l r) ∧ Below W.heap.size W wr) (fun i _ => m - (RowKit.intOf i).toNat)
      case atStart => exact ⟨0, rfl, Nat.zero_le _, Lib.hid rfl, Below.refl _ _⟩
      case round =>
        obtain ⟨k, rfl, hk, HEq, hbw⟩ := hrel
        by_cases hlt : k < m
        · obtain ⟨x, hx⟩ : ∃ x, l[k]? = some x := ⟨l[k]'(by rw [HM1.out]; exact hlt), List.getElem?_eq_getElem _⟩
          obtain ⟨y, hy⟩ : ∃ y, r[k]? = some y := ⟨r[k]'(by rw [HM2.out]; exact hlt), List.getElem?_eq_getElem _⟩
          obtain ⟨b1, off1, LE1, LA1, LB1, rfl, hbB1, ha1, -, he1, hra1, hrb1⟩ := HA1.out k x hx
          obtain ⟨b2, off2, LE2, LA2, LB2, rfl, hbB2, ha2, -, he2, hra2, hrb2⟩ := HA2.out k y hy
          obtain ⟨x0, x1, x2, x3, x4, x5⟩ := ha1.below hbw (hP b1 hbB1)
          obtain ⟨E1, e1, rfl, -, hel1⟩ := he1.slice
          obtain ⟨E2, e2, rfl, -, hel2⟩ := he2.slice
          obtain ⟨F1, f1, rfl, -, -⟩ := hra1.slice
          obtain ⟨F2, f2, rfl, -, -⟩ := hra2.slice
          obtain ⟨G1, g1, rfl, -, -⟩ := hrb1.slice
          obtain ⟨G2, g2, rfl, -, -⟩ := hrb2.slice
          have hbw2 : b2 < wr.heap.size := lo_up hP hbw.size b2 hbB2
          obtain ⟨Wa, hWa⟩ : ∃ Wa, Wa = wr.alloc (.cells #[.string x.op, .string x.nm, .slice E1 x.e.length e1, .slice F1 x.A.length f1, .slice G1 x.B.length g1, .int .i64 x.a] 29) := ⟨_, rfl⟩
          obtain ⟨W0, hW0⟩ : ∃ W0, W0 = Wa.alloc (.cells #[.string y.op, .string y.nm, .slice E2 y.e.length e2, .slice F2 y.A.length f2, .slice G2 y.B.length g2, .int .i64 y.a] 29) := ⟨_, rfl⟩
          have hba : Below wr.heap.size wr Wa := by rw [hWa]; exact (Below.refl _ _).alloc (Nat.le_refl _) _
          have hbb : Below Wa.heap.size Wa W0 := by rw [hW0]; exact (Below.refl _ _).alloc (Nat.le_refl _) _
          have hsa : Wa.heap.size = wr.heap.size + 1 := by rw [hWa, World.size_alloc]
          have hka : Blk Wa wr.heap.size 29 #[.string x.op, .string x.nm, .slice E1 x.e.length e1, .slice F1 x.A.length f1, .slice G1 x.B.length g1, .int .i64 x.a] := by rw [hWa]; exact Blk.new wr _ _
          have HKa : Hid (Blk W0 wr.heap.size 29 #[.string x.op, .string x.nm, .slice E1 x.e.length e1, .slice F1 x.A.length f1, .slice G1 x.B.length g1, .int .i64 x.a]) := Lib.hid (hka.below hbb hka.lt)
          have HKb : Hid (Blk W0 (wr.heap.size + 1) 29 #[.string y.op, .string y.nm, .slice E2 y.e.length e2, .slice F2 y.A.length f2, .slice G2 y.B.length g2, .int .i64 y.a]) := Lib.hid (by rw [hW0, ← hsa]; exact Blk.new Wa _ _)
          have HB0 := Lib.hid (thru hba hbb)
          have HBW := Lib.hid (thru hbw HB0.out)
          obtain ⟨y0, y1, y2, y3, y4, y5⟩ := ha2.below hbw (hP b2 hbB2)
          have HW0 : Hid (W0 = (wr.alloc (.cells #[.string x.op, .string x.nm, .slice E1 x.e.length e1, .slice F1 x.A.length f1, .slice G1 x.B.length g1, .int .i64 x.a] 29)).alloc (.cells #[.string y.op, .string y.nm, .slice E2 y.e.length e2, .slice F2 y.A.length f2, .slice G2 y.B.length g2, .int .i64 y.a] 29)) := Lib.hid (by rw [← hWa]; exact hW0)
          have HC1 : Hid (∀ w2, Below W0.heap.size W0 w2 → w2.cell? ⟨wr.heap.size, 0, none⟩ = some (.string x.op) ∧ w2.cell? ⟨wr.heap.size, 1, none⟩ = some (.string x.nm) ∧ w2.cell? ⟨wr.heap.size, 2, none⟩ = some (.slice E1 x.e.length e1) ∧ w2.cell? ⟨wr.heap.size, 3, none⟩ = some (.slice F1 x.A.length f1) ∧ w2.cell? ⟨wr.heap.size, 4, none⟩ = some (.slice G1 x.B.length g1)) := Lib.hid fun w2 hb => ⟨(HKa.out.below hb HKa.out.lt).cell 0, (HKa.out.below hb HKa.out.lt).cell 1, (HKa.out.below hb HKa.out.lt).cell 2, (HKa.out.below hb HKa.out.lt).cell 3, (HKa.out.below hb HKa.out.lt).cell 4⟩
          have HC2 : Hid (∀ w2, Below W0.heap.size W0 w2 → w2.cell? ⟨wr.heap.size + 1, 0, none⟩ = some (.string y.op) ∧ w2.cell? ⟨wr.heap.size + 1, 1, none⟩ = some (.string y.nm) ∧ w2.cell? ⟨wr.heap.size + 1, 2, none⟩ = some (.slice E2 y.e.length e2) ∧ w2.cell? ⟨wr.heap.size + 1, 3, none⟩ = some (.slice F2 y.A.length f2) ∧ w2.cell? ⟨wr.heap.size + 1, 4, none⟩ = some (.slice G2 y.B.length g2)) := Lib.hid fun w2 hb => ⟨(HKb.out.below hb HKb.out.lt).cell 0, (HKb.out.below hb HKb.out.lt).cell 1, (HKb.out.below hb HKb.out.lt).cell 2, (HKb.out.below hb HKb.out.lt).cell 3, (HKb.out.below hb HKb.out.lt).cell 4⟩
          obtain ⟨qa, hqa⟩ : ∃ q, q = sameB x.A y.A := ⟨_, rfl⟩
          obtain ⟨qb, hqb⟩ : ∃ q, q = sameB x.B y.B := ⟨_, rfl⟩
          obtain ⟨p, hp⟩ : ∃ p, p = sameL x.e y.e := ⟨_, rfl⟩
          have HCa : Hid (∀ w2, Below W0.heap.size W0 w2 → Calls Tryd.prog 25 #[.slice F1 x.A.length f1, .slice F2 y.A.length f2] w2 (fun e w' => e = .returned (.bool qa) ∧ Below W0.heap.size W0 w')) := Lib.hid fun w2 hb => by
            rw [hqa]
            exact (HIH.out x.A y.A _ _ P w2 (hra1.below (thru HBW.out hb) hP) (hra2.below (thru HBW.out hb) hP) (lo_up hP (thru HBW.out hb).size)).mono fun e w' ⟨h1, h2⟩ => ⟨h1, thru hb h2⟩
          have HCb : Hid (∀ w2, Below W0.heap.size W0 w2 → Calls Tryd.prog 25 #[.slice G1 x.B.length g1, .slice G2 y.B.length g2] w2 (fun e w' => e = .returned (.bool qb) ∧ Below W0.heap.size W0 w')) := Lib.hid fun w2 hb => by
            rw [hqb]
            exact (HIH.out x.B y.B _ _ P w2 (hrb1.below (thru HBW.out hb) hP) (hrb2.below (thru HBW.out hb) hP) (lo_up hP (thru HBW.out hb).size)).mono fun e w' ⟨h1, h2⟩ => ⟨h1, thru hb h2⟩
          have HSt : Hid (sameB (l.drop k) (r.drop k) = (((x.op.toList == y.op.toList) && ((x.nm.toList == y.nm.toList) && (p && (qa && qb)))) && sameB (l.drop (k + 1)) (r.drop (k + 1)))) := Lib.hid (by
            rw [sameB_F, sameB_F]
            exact (sameF_at _ hx hy).trans (by rw [sameS_X, hp, hqa, hqb]; rfl))
          have HE1 := Lib.hid he1
          have HE2 := Lib.hid he2
          have HP := Lib.hid hp
          have HBw := Lib.hid hbw
          have hle1 : x.e.length ≤ 140737488355328 := by omega
          have hle2 : y.e.length ≤ 140737488355328 := by omega
          clear ha1 ha2 he1 he2 hra1 hra2 hrb1 hrb2 hWa hW0 hba hbb hsa hka hqa hqb hp hx hy hbw hel1 hel2
          obtain ⟨u0, u1, u2, u3, u4⟩ := HC1.out _ (Below.refl _ _)
          obtain ⟨v0, v1, v2, v3, v4⟩ := HC2.out _ (Below.refl _ _)
          have HD0 : Hid (Below W0.heap.size W0 W0) := Lib.hid (Below.refl _ _)
          cases h1 : (x.op.toList == y.op.toList)
          · have nb1 : (x.op.toList != y.op.toList) = true := by simp only [bne, h1]; rfl
            rw [h1] at HSt
            go_upto_region 8 with fail
            rw [← HW0.out]
            go_wp2_with fail
            go_ret
            exact ⟨ret_bool (by rw [← HEq.out, HSt.out]; simp), thru HBW.out HD0.out⟩
          · have nb1 : (x.op.toList != y.op.toList) = false := by simp only [bne, h1]; rfl
            rw [h1] at HSt
            cases h2 : (x.nm.toList == y.nm.toList)
            · have nb2 : (x.nm.toList != y.nm.toList) = true := by simp only [bne, h2]; rfl
              rw [h2] at HSt
              go_upto_region 8 with fail
              rw [← HW0.out]
              go_wp2_with fail
              go_ret
              exact ⟨ret_bool (by rw [← HEq.out, HSt.out]; simp), thru HBW.out HD0.out⟩
            · have nb2 : (x.nm.toList != y.nm.toList) = false := by simp only [bne, h2]; rfl
              rw [h2] at HSt
              by_cases hle : x.e.length = y.e.length
              · obtain ⟨m2, hm2⟩ : ∃ m2, y.e.length = m2 := ⟨_, rfl⟩
                have hlen2 : x.e.length = m2 := hle.trans hm2
                have HM3 := Lib.hid hlen2
                have HM4 := Lib.hid hm2
                rw [hm2] at hle2 HKb HC2 HW0 v2 y2
                rw [hlen2] at hle1 HKa HC1 HW0 u2 x2
                clear hm2 hlen2 hle
                have nb3 : ((m2 : Int) != (m2 : Int)) = false := by simp
                cases qa
                · go_upto_region 8 with fail
                  rw [← HW0.out]
                  go_wp2_with (go_at_call 25; have HX := HCa.out _ HD0.out; (with_reducible refine HX.mono ?_); clear HX; rintro e w1 ⟨rfl, hb⟩; have HD1 := Lib.hid hb; obtain ⟨r0, r1, r2, r3, r4⟩ := HC1.out _ hb; obtain ⟨s0, s1, s2, s3, s4⟩ := HC2.out _ hb; clear hb u0 u1 u2 u3 u4 v0 v1 v2 v3 v4)
                  go_ret
                  exact ⟨ret_bool (by rw [← HEq.out, HSt.out]; simp), thru HBW.out HD1.out⟩
                · cases qb
                  · go_upto_region 8 with fail
                    rw [← HW0.out]
                    go_wp2_with (first
                      | (go_at_call 25; have HX := HCa.out _ HD0.out; (with_reducible refine HX.mono ?_); clear HX; rintro e w1 ⟨rfl, hb⟩; have HD1 := Lib.hid hb; obtain ⟨r0, r1, r2, r3, r4⟩ := HC1.out _ hb; obtain ⟨s0, s1, s2, s3, s4⟩ := HC2.out _ hb; clear hb u0 u1 u2 u3 u4 v0 v1 v2 v3 v4)
                      | (go_at_call 25; have HX := HCb.out _ HD1.out; (with_reducible refine HX.mono ?_); clear HX; rintro e w2 ⟨rfl, hb⟩; have HD2 := Lib.hid hb; clear hb))
                    go_ret
                    exact ⟨ret_bool (by rw [← HEq.out, HSt.out]; simp), thru HBW.out HD2.out⟩
                  · obtain ⟨wo, hwo⟩ : ∃ wo, wo = wr := ⟨_, rfl⟩
                    subst hwo
                    obtain ⟨le, hle3⟩ : ∃ le, le = x.e := ⟨_, rfl⟩
                    obtain ⟨re, hre3⟩ : ∃ re, re = y.e := ⟨_, rfl⟩
                    have HP2 : Hid (p = sameL le re) := Lib.hid (by rw [hle3, hre3]; exact HP.out)
                    have HM1e : Hid (le.length = m2) := Lib.hid (by rw [hle3]; exact HM3.out)
                    have HM2e : Hid (re.length = m2) := Lib.hid (by rw [hre3]; exact HM4.out)
                    have hx1 := HE1.out.at
                    have hx2 := HE2.out.at
                    rw [← hle3] at hx1
                    rw [← hre3] at hx2
                    have HA1e := Lib.hid hx1
                    have HA2e := Lib.hid hx2
                    have HIHe := Lib.hid (rexEq_any (n - 1))
                    clear hle3 hre3 hx1 hx2 HE1 HE2 HM3 HM4 HP
                    go_upto_region 8 with fail
                    rw [← HW0.out]
                    go_wp2_with (first
                      | (go_at_call 25; have HX := HCa.out _ HD0.out; (with_reducible refine HX.mono ?_); clear HX; rintro e w1 ⟨rfl, hb⟩; have HD1 := Lib.hid hb; obtain ⟨r0, r1, r2, r3, r4⟩ := HC1.out _ hb; obtain ⟨s0, s1, s2, s3, s4⟩ := HC2.out _ hb; clear hb u0 u1 u2 u3 u4 v0 v1 v2 v3 v4)
                      | (go_at_call 25; have HX := HCb.out _ HD1.out; (with_reducible refine HX.mono ?_); clear HX; rintro e w2 ⟨rfl, hb⟩; have HD2 := Lib.hid hb; clear hb))
                    clear r0 r1 r2 r3 r4 s0 s1 s2 s3 s4 x0 x1 x2 x3 x4 x5 y0 y1 y2 y3 y4 y5 h1 h2 nb1 nb2 nb3
                    go_loopw [8] (fun i wr => ∃ k2 : Nat, i = .int .i64 (k2 : Int) ∧ k2 ≤ m2 ∧ Hid (sameL (le.drop k2) (re.drop k2) = p) ∧ Below W0.heap.size W0 wr) (fun i _ => m2 - (RowKit.intOf i).toNat)
                    case atStart => exact ⟨0, rfl, Nat.zero_le _, Lib.hid HP2.out.symm, HD2.out⟩
                    case round =>
                      obtain ⟨k2, rfl, hk2, HEqE, hbwi⟩ := hrel
                      have z3 := (HKa.out.below hbwi HKa.out.lt).cell 2
                      have z4 := (HKb.out.below hbwi HKb.out.lt).cell 2
                      simp at z3 z4
                      by_cases hlt2 : k2 < m2
                      · obtain ⟨xi, hx⟩ : ∃ xi, le[k2]? = some xi := ⟨le[k2]'(by rw [HM1e.out]; exact hlt2), List.getElem?_eq_getElem _⟩
                        obtain ⟨yi, hy⟩ : ∃ yi, re[k2]? = some yi := ⟨re[k2]'(by rw [HM2e.out]; exact hlt2), List.getElem?_eq_getElem _⟩
                        obtain ⟨bi1, oi1, L1, rfl, hbB1, ha1, -, -, hr1⟩ := HA1e.out k2 xi hx
                        obtain ⟨bi2, oi2, L2, rfl, hbB2, ha2, -, -, hr2⟩ := HA2e.out k2 yi hy
                        have hbB3 : Below W.heap.size W wr := thru HBW.out hbwi
                        obtain ⟨D1, d1, rfl, -, -⟩ := hr1.slice
                        obtain ⟨D2, d2, rfl, -, -⟩ := hr2.slice
                        obtain ⟨q, hq⟩ : ∃ q, q = sameE xi yi := ⟨_, rfl⟩
                        have HBd : Hid (Below wr.heap.size wr wr.drew) := Lib.hid (Below.refl _ _).drew
                        have HCi : Hid (Calls Tryd.prog 27 #[exV xi.op xi.nm xi.n (.slice D1 xi.l.length d1) xi.a, exV yi.op yi.nm yi.n (.slice D2 yi.l.length d2) yi.a] wr.drew (fun e w' => e = .returned (.bool q) ∧ Below wr.drew.heap.size wr.drew w')) := Lib.hid (by
                          rw [hq, sameE_X]
                          exact HIHe.out xi.l yi.l _ _ _ _ _ _ _ _ _ _ P wr.drew (hr1.below (thru hbB3 HBd.out) hP) (hr2.below (thru hbB3 HBd.out) hP) (lo_up hP (thru hbB3 HBd.out).size))
                        have HSS : Hid (∀ w', Below wr.heap.size wr w' → (w'.cell? ⟨wo.heap.size, 2, none⟩ = some (.slice (some ⟨bi1, oi1, none⟩) m2 e1) ∧ w'.cell? ⟨wo.heap.size + 1, 2, none⟩ = some (.slice (some ⟨bi2, oi2, none⟩) m2 e2)) ∧ (w'.cell? ⟨bi1, oi1 + k2 * 5, none⟩ = some (.string xi.op) ∧ w'.cell? ⟨bi1, oi1 + k2 * 5 + 1, none⟩ = some (.string xi.nm) ∧ w'.cell? ⟨bi1, oi1 + k2 * 5 + 2, none⟩ = some (.int .i64 xi.n) ∧ w'.cell? ⟨bi1, oi1 + k2 * 5 + 3, none⟩ = some (.slice D1 xi.l.length d1) ∧ w'.cell? ⟨bi1, oi1 + k2 * 5 + 4, none⟩ = some (.int .i64 xi.a)) ∧ w'.cell? ⟨bi2, oi2 + k2 * 5, none⟩ = some (.string yi.op) ∧ w'.cell? ⟨bi2, oi2 + k2 * 5 + 1, none⟩ = some (.string yi.nm) ∧ w'.cell? ⟨bi2, oi2 + k2 * 5 + 2, none⟩ = some (.int .i64 yi.n) ∧ w'.cell? ⟨bi2, oi2 + k2 * 5 + 3, none⟩ = some (.slice D2 yi.l.length d2) ∧ w'.cell? ⟨bi2, oi2 + k2 * 5 + 4, none⟩ = some (.int .i64 yi.a)) := Lib.hid fun w' hb => ⟨⟨(HKa.out.below (thru hbwi hb) HKa.out.lt).cell 2, (HKb.out.below (thru hbwi hb) HKb.out.lt).cell 2⟩, ha1.below (thru hbB3 hb) (hP bi1 hbB1), ha2.below (thru hbB3 hb) (hP bi2 hbB2)⟩
                        have S0 := Lib.hid (HSS.out _ HBd.out)
                        have HBwi := Lib.hid hbwi
                        have HStE : Hid (sameL (le.drop k2) (re.drop k2) = (q && sameL (le.drop (k2 + 1)) (re.drop (k2 + 1)))) := Lib.hid (by
                          rw [sameL_F, sameL_F]
                          exact (sameF_at _ hx hy).trans (by rw [hq]))
                        clear hbwi hx hy hq ha1 ha2 hr1 hr2 hbB3
                        cases q
                        · go_wp2_with fail
                          go_region_held3 (fun w' => (w'.cell? ⟨wo.heap.size, 2, none⟩ = some (.slice (some ⟨bi1, oi1, none⟩) m2 e1) ∧ w'.cell? ⟨wo.heap.size + 1, 2, none⟩ = some (.slice (some ⟨bi2, oi2, none⟩) m2 e2)) ∧ (w'.cell? ⟨bi1, oi1 + k2 * 5, none⟩ = some (.string xi.op) ∧ w'.cell? ⟨bi1, oi1 + k2 * 5 + 1, none⟩ = some (.string xi.nm) ∧ w'.cell? ⟨bi1, oi1 + k2 * 5 + 2, none⟩ = some (.int .i64 xi.n) ∧ w'.cell? ⟨bi1, oi1 + k2 * 5 + 3, none⟩ = some (.slice D1 xi.l.length d1) ∧ w'.cell? ⟨bi1, oi1 + k2 * 5 + 4, none⟩ = some (.int .i64 xi.a)) ∧ w'.cell? ⟨bi2, oi2 + k2 * 5, none⟩ = some (.string yi.op) ∧ w'.cell? ⟨bi2, oi2 + k2 * 5 + 1, none⟩ = some (.string yi.nm) ∧ w'.cell? ⟨bi2, oi2 + k2 * 5 + 2, none⟩ = some (.int .i64 yi.n) ∧ w'.cell? ⟨bi2, oi2 + k2 * 5 + 3, none⟩ = some (.slice D2 yi.l.length d2) ∧ w'.cell? ⟨bi2, oi2 + k2 * 5 + 4, none⟩ = some (.int .i64 yi.a))
                            (first | (with_reducible exact S0.out) | (with_reducible exact S1.out))
                            (first
                            | (go_at_call 27; have HX := HCi.out; (with_reducible refine HX.mono ?_); clear HX; rintro e wj ⟨rfl, hb⟩; have HBj := Lib.hid (thru HBd.out hb); have S1 := Lib.hid (HSS.out _ HBj.out); clear hb))
                          all_goals go_wp2_with fail
                          all_goals go_ret
                          all_goals exact ⟨ret_bool (by rw [← HEq.out, HSt.out, ← HEqE.out, HStE.out]; simp), thru HBW.out (thru HBwi.out HBj.out)⟩
                        · go_wp2_with fail
                          go_region_held3 (fun w' => (w'.cell? ⟨wo.heap.size, 2, none⟩ = some (.slice (some ⟨bi1, oi1, none⟩) m2 e1) ∧ w'.cell? ⟨wo.heap.size + 1, 2, none⟩ = some (.slice (some ⟨bi2, oi2, none⟩) m2 e2)) ∧ (w'.cell? ⟨bi1, oi1 + k2 * 5, none⟩ = some (.string xi.op) ∧ w'.cell? ⟨bi1, oi1 + k2 * 5 + 1, none⟩ = some (.string xi.nm) ∧ w'.cell? ⟨bi1, oi1 + k2 * 5 + 2, none⟩ = some (.int .i64 xi.n) ∧ w'.cell? ⟨bi1, oi1 + k2 * 5 + 3, none⟩ = some (.slice D1 xi.l.length d1) ∧ w'.cell? ⟨bi1, oi1 + k2 * 5 + 4, none⟩ = some (.int .i64 xi.a)) ∧ w'.cell? ⟨bi2, oi2 + k2 * 5, none⟩ = some (.string yi.op) ∧ w'.cell? ⟨bi2, oi2 + k2 * 5 + 1, none⟩ = some (.string yi.nm) ∧ w'.cell? ⟨bi2, oi2 + k2 * 5 + 2, none⟩ = some (.int .i64 yi.n) ∧ w'.cell? ⟨bi2, oi2 + k2 * 5 + 3, none⟩ = some (.slice D2 yi.l.length d2) ∧ w'.cell? ⟨bi2, oi2 + k2 * 5 + 4, none⟩ = some (.int .i64 yi.a))
                            (first | (with_reducible exact S0.out) | (with_reducible exact S1.out))
                            (first
                            | (go_at_call 27; have HX := HCi.out; (with_reducible refine HX.mono ?_); clear HX; rintro e wj ⟨rfl, hb⟩; have HBj := Lib.hid (thru HBd.out hb); have S1 := Lib.hid (HSS.out _ HBj.out); clear hb))
                          all_goals go_wp2_with fail
                          all_goals go_roundw
                          case rel => exact ⟨k2 + 1, by go_num, hlt2, Lib.hid (by rw [← HEqE.out, HStE.out, Bool.true_and]), thru HBwi.out HBj.out⟩
                          case measure => simp [RowKit.intOf]; omega
                      · have he : k2 = m2 := by omega
                        subst he
                        have HT : Hid (p = true) := Lib.hid (by rw [← HEqE.out, List.drop_eq_nil_of_le (by rw [HM1e.out]; exact Nat.le_refl _), List.drop_eq_nil_of_le (by rw [HM2e.out]; exact Nat.le_refl _)]; rfl)
                        have HBwi := Lib.hid hbwi
                        clear hbwi
                        go_wp2_with fail
                        go_roundw
                        case rel => exact ⟨k + 1, by go_num, hlt, Lib.hid (by rw [← HEq.out, HSt.out, HT.out]; simp), thru HBW.out HBwi.out⟩
                        case measure => simp [RowKit.intOf]; omega
              · have nb3 : ((x.e.length : Int) != (y.e.length : Int)) = true := by simp; omega
                have HPF : Hid (p = false) := Lib.hid (by rw [HP.out, sameL_F]; exact sameF_len _ hle)
                clear hle
                rw [HPF.out] at HSt
                go_upto_region 8 with fail
                rw [← HW0.out]
                go_wp2_with fail
                go_ret
                exact ⟨ret_bool (by rw [← HEq.out, HSt.out]; simp), thru HBW.out HD0.out⟩
        · have he : k = m := by omega
          subst he
          have HT : Hid (sameB l r = true) := Lib.hid (by rw [← HEq.out, List.drop_eq_nil_of_le (by rw [HM1.out]; exact Nat.le_refl _), List.drop_eq_nil_of_le (by rw [HM2.out]; exact Nat.le_refl _)]; rfl)
          go_wp2_with fail
          go_ret
          exact ⟨ret_bool HT.out.symm, hbw⟩
    · have hneq : ((l.length : Int) != (r.length : Int)) = true := by simp; omega
      have HF : Hid (sameB l r = false) := Lib.hid (by rw [sameB_F]; exact sameF_len _ hlen)
      clear hlen
      go_enter Tryd.func25, Tryd.ntmps25
      go_wp2
      go_ret
      exact ⟨ret_bool HF.out.symm, Below.refl _ _⟩
end
end Go.Proofs.YtpccomjgoclmgaaDoor
