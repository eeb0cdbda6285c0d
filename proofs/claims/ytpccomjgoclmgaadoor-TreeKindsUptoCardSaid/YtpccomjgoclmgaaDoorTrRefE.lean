/- The tree layer: the document's SameExpr. -/
import Derived.Test.YtpccomjgoclmgaaDoorTrSame
import Derived.Deep.RegionHeld3
namespace Go.Proofs.YtpccomjgoclmgaaDoor
open Go.RowKit
section
set_option maxRecDepth 100000 in
set_option maxHeartbeats 12800000 in
theorem rexEq_any (n : Nat) : ∀ (l r : List Ex) (o nm : ByteArray) (k a : Int) (o' nm' : ByteArray) (k' a' : Int) (v u : Value) (P : Nat → Prop) (W : World), ExR P n W l v → ExR P n W r u → (∀ b, P b → b < W.heap.size) → Calls Tryd.prog 27 #[exV o nm k v a, exV o' nm' k' u a'] W (fun e w' => e = .returned (.bool (sameX o nm k l o' nm' k' r)) ∧ Below W.heap.size W w') := by
  induction n with
  | zero => intro l r o nm k a o' nm' k' a' v u P W h; exact h.elim
  | succ n ih =>
    intro l r o nm k a o' nm' k' a' v u P W hv hu hP
    obtain ⟨A1, cap1, rfl, hc1, hl1, hat1⟩ := hv
    obtain ⟨A2, cap2, rfl, hc2, hl2, hat2⟩ := hu
    have HIH := Lib.hid ih
    have HA1 := Lib.hid hat1
    have HA2 := Lib.hid hat2
    have hl3 : l.length ≤ 140737488355328 := by omega
    have hl4 : r.length ≤ 140737488355328 := by omega
    clear hat1 hat2 hl1 hl2 ih
    obtain ⟨p, hp⟩ : ∃ p, p = sameL l r := ⟨_, rfl⟩
    have HX : Hid (sameX o nm k l o' nm' k' r = ((o.toList == o'.toList) && ((nm.toList == nm'.toList) && ((k == k') && p)))) := Lib.hid (by rw [hp]; rfl)
    have HP := Lib.hid hp
    rw [HX.out]
    clear hp HX
    obtain ⟨Wa, hWa⟩ : ∃ Wa, Wa = W.alloc (.cells #[.string o, .string nm, .int .i64 k, .slice A1 l.length cap1, .int .i64 a] 24) := ⟨_, rfl⟩
    obtain ⟨W0, hW0⟩ : ∃ W0, W0 = Wa.alloc (.cells #[.string o', .string nm', .int .i64 k', .slice A2 r.length cap2, .int .i64 a'] 24) := ⟨_, rfl⟩
    have hba : Below W.heap.size W Wa := by rw [hWa]; exact (Below.refl _ _).alloc (Nat.le_refl _) _
    have hbb : Below Wa.heap.size Wa W0 := by rw [hW0]; exact (Below.refl _ _).alloc (Nat.le_refl _) _
    have hsa : Wa.heap.size = W.heap.size + 1 := by rw [hWa, World.size_alloc]
    have hka : Blk Wa W.heap.size 24 #[.string o, .string nm, .int .i64 k, .slice A1 l.length cap1, .int .i64 a] := by rw [hWa]; exact Blk.new W _ _
    have HKa : Hid (Blk W0 W.heap.size 24 #[.string o, .string nm, .int .i64 k, .slice A1 l.length cap1, .int .i64 a]) := Lib.hid (hka.below hbb hka.lt)
    have HKb : Hid (Blk W0 (W.heap.size + 1) 24 #[.string o', .string nm', .int .i64 k', .slice A2 r.length cap2, .int .i64 a']) := Lib.hid (by rw [hW0, ← hsa]; exact Blk.new Wa _ _)
    have HB0 := Lib.hid (thru hba hbb)
    have HW0 : Hid (W0 = (W.alloc (.cells #[.string o, .string nm, .int .i64 k, .slice A1 l.length cap1, .int .i64 a] 24)).alloc (.cells #[.string o', .string nm', .int .i64 k', .slice A2 r.length cap2, .int .i64 a'] 24)) := Lib.hid (by rw [← hWa]; exact hW0)
    clear hWa hW0 hba hbb hsa hka
    have x0 := HKa.out.cell 0
    have x1 := HKa.out.cell 1
    have x2 := HKa.out.cell 2
    have x3 := HKa.out.cell 3
    have y0 := HKb.out.cell 0
    have y1 := HKb.out.cell 1
    have y2 := HKb.out.cell 2
    have y3 := HKb.out.cell 3
    simp at x0 x1 x2 x3 y0 y1 y2 y3
    cases b1 : (o.toList == o'.toList)
    · have nb1 : (o.toList != o'.toList) = true := by simp only [bne, b1]; rfl
      go_enter Tryd.func27, Tryd.ntmps27
      go_upto_region 1 with fail
      rw [← HW0.out]
      go_wp2_with fail
      go_ret
      exact ⟨rfl, HB0.out⟩
    · have nb1 : (o.toList != o'.toList) = false := by simp only [bne, b1]; rfl
      cases b2 : (nm.toList == nm'.toList)
      · have nb2 : (nm.toList != nm'.toList) = true := by simp only [bne, b2]; rfl
        go_enter Tryd.func27, Tryd.ntmps27
        go_upto_region 1 with fail
        rw [← HW0.out]
        go_wp2_with fail
        go_ret
        exact ⟨rfl, HB0.out⟩
      · have nb2 : (nm.toList != nm'.toList) = false := by simp only [bne, b2]; rfl
        cases b3 : (k == k')
        · have nb3 : (k != k') = true := by simp only [bne, b3]; rfl
          go_enter Tryd.func27, Tryd.ntmps27
          go_upto_region 1 with fail
          rw [← HW0.out]
          go_wp2_with fail
          go_ret
          exact ⟨rfl, HB0.out⟩
        · have nb3 : (k != k') = false := by simp only [bne, b3]; rfl
          by_cases hlen : l.length = r.length
          · obtain ⟨m, hm⟩ : ∃ m, r.length = m := ⟨_, rfl⟩
            rw [hm] at hlen hl4 hc2 y3 HKb HW0
            have HM1 := Lib.hid hlen
            have HM2 := Lib.hid hm
            rw [hlen] at hl3 hc1 x3 HKa HW0 ⊢
            rw [hm]
            clear hm hlen
            go_enter Tryd.func27, Tryd.ntmps27
            go_upto_region 1 with fail
            rw [← HW0.out]
            go_wp2_with fail
            clear x0 x1 x2 x3 y0 y1 y2 y3 b1 b2 b3 nb1 nb2 nb3
            go_loopw [5] (fun i wr => ∃ k : Nat, i = .int .i64 (k : Int) ∧ k ≤ m ∧ Hid (sameL (l.drop k) (r.drop k) = p) ∧ Below W0.heap.size W0 wr) (fun i _ => m - (RowKit.intOf i).toNat)
            case atStart => exact ⟨0, rfl, Nat.zero_le _, Lib.hid HP.out.symm, Below.refl _ _⟩
            case round =>
              obtain ⟨kk, rfl, hk, HEq, hbw⟩ := hrel
              have z3 := (HKa.out.below hbw HKa.out.lt).cell 3
              have z4 := (HKb.out.below hbw HKb.out.lt).cell 3
              simp at z3 z4
              by_cases hlt : kk < m
              · obtain ⟨x, hx⟩ : ∃ x, l[kk]? = some x := ⟨l[kk]'(by rw [HM1.out]; exact hlt), List.getElem?_eq_getElem _⟩
                obtain ⟨y, hy⟩ : ∃ y, r[kk]? = some y := ⟨r[kk]'(by rw [HM2.out]; exact hlt), List.getElem?_eq_getElem _⟩
                obtain ⟨b1, off1, L1, rfl, hbB1, ha1, -, -, hr1⟩ := HA1.out kk x hx
                obtain ⟨b2, off2, L2, rfl, hbB2, ha2, -, -, hr2⟩ := HA2.out kk y hy
                have hbB3 : Below W.heap.size W wr := thru HB0.out hbw
                obtain ⟨D1, d1, rfl, -, -⟩ := hr1.slice
                obtain ⟨D2, d2, rfl, -, -⟩ := hr2.slice
                obtain ⟨q, hq⟩ : ∃ q, q = sameE x y := ⟨_, rfl⟩
                have HBd : Hid (Below wr.heap.size wr wr.drew) := Lib.hid (Below.refl _ _).drew
                have HC : Hid (Calls Tryd.prog 27 #[exV x.op x.nm x.n (.slice D1 x.l.length d1) x.a, exV y.op y.nm y.n (.slice D2 y.l.length d2) y.a] wr.drew (fun e w' => e = .returned (.bool q) ∧ Below wr.drew.heap.size wr.drew w')) := Lib.hid (by
                  rw [hq, sameE_X]
                  exact HIH.out x.l y.l _ _ _ _ _ _ _ _ _ _ P wr.drew (hr1.below (thru hbB3 HBd.out) hP) (hr2.below (thru hbB3 HBd.out) hP) (lo_up hP (thru hbB3 HBd.out).size))
                have HSS : Hid (∀ w', Below wr.heap.size wr w' → (w'.cell? ⟨W.heap.size, 3, none⟩ = some (.slice (some ⟨b1, off1, none⟩) m cap1) ∧ w'.cell? ⟨W.heap.size + 1, 3, none⟩ = some (.slice (some ⟨b2, off2, none⟩) m cap2)) ∧ (w'.cell? ⟨b1, off1 + kk * 5, none⟩ = some (.string x.op) ∧ w'.cell? ⟨b1, off1 + kk * 5 + 1, none⟩ = some (.string x.nm) ∧ w'.cell? ⟨b1, off1 + kk * 5 + 2, none⟩ = some (.int .i64 x.n) ∧ w'.cell? ⟨b1, off1 + kk * 5 + 3, none⟩ = some (.slice D1 x.l.length d1) ∧ w'.cell? ⟨b1, off1 + kk * 5 + 4, none⟩ = some (.int .i64 x.a)) ∧ w'.cell? ⟨b2, off2 + kk * 5, none⟩ = some (.string y.op) ∧ w'.cell? ⟨b2, off2 + kk * 5 + 1, none⟩ = some (.string y.nm) ∧ w'.cell? ⟨b2, off2 + kk * 5 + 2, none⟩ = some (.int .i64 y.n) ∧ w'.cell? ⟨b2, off2 + kk * 5 + 3, none⟩ = some (.slice D2 y.l.length d2) ∧ w'.cell? ⟨b2, off2 + kk * 5 + 4, none⟩ = some (.int .i64 y.a)) := Lib.hid fun w' hb => ⟨⟨(HKa.out.below (thru hbw hb) HKa.out.lt).cell 3, (HKb.out.below (thru hbw hb) HKb.out.lt).cell 3⟩, ha1.below (thru hbB3 hb) (hP b1 hbB1), ha2.below (thru hbB3 hb) (hP b2 hbB2)⟩
                have S0 := Lib.hid (HSS.out _ HBd.out)
                have HBw := Lib.hid hbw
                have HSt : Hid (sameL (l.drop kk) (r.drop kk) = (q && sameL (l.drop (kk + 1)) (r.drop (kk + 1)))) := Lib.hid (by
                  rw [sameL_F, sameL_F]
                  exact (sameF_at _ hx hy).trans (by rw [hq]))
                clear hbw hx hy hq ha1 ha2 hr1 hr2 hbB3
                cases q
                · go_wp2_with fail
                  go_region_held3 (fun w' => (w'.cell? ⟨W.heap.size, 3, none⟩ = some (.slice (some ⟨b1, off1, none⟩) m cap1) ∧ w'.cell? ⟨W.heap.size + 1, 3, none⟩ = some (.slice (some ⟨b2, off2, none⟩) m cap2)) ∧ (w'.cell? ⟨b1, off1 + kk * 5, none⟩ = some (.string x.op) ∧ w'.cell? ⟨b1, off1 + kk * 5 + 1, none⟩ = some (.string x.nm) ∧ w'.cell? ⟨b1, off1 + kk * 5 + 2, none⟩ = some (.int .i64 x.n) ∧ w'.cell? ⟨b1, off1 + kk * 5 + 3, none⟩ = some (.slice D1 x.l.length d1) ∧ w'.cell? ⟨b1, off1 + kk * 5 + 4, none⟩ = some (.int .i64 x.a)) ∧ w'.cell? ⟨b2, off2 + kk * 5, none⟩ = some (.string y.op) ∧ w'.cell? ⟨b2, off2 + kk * 5 + 1, none⟩ = some (.string y.nm) ∧ w'.cell? ⟨b2, off2 + kk * 5 + 2, none⟩ = some (.int .i64 y.n) ∧ w'.cell? ⟨b2, off2 + kk * 5 + 3, none⟩ = some (.slice D2 y.l.length d2) ∧ w'.cell? ⟨b2, off2 + kk * 5 + 4, none⟩ = some (.int .i64 y.a))
                    (first | (with_reducible exact S0.out) | (with_reducible exact S1.out))
                    (first
                    | (go_at_call 27; have HX := HC.out; (with_reducible refine HX.mono ?_); clear HX; rintro e w1 ⟨rfl, hb⟩; have HB2 := Lib.hid (thru HBd.out hb); have S1 := Lib.hid (HSS.out _ HB2.out); clear hb))
                  all_goals go_wp2_with fail
                  all_goals go_ret
                  all_goals exact ⟨ret_bool (by rw [← HEq.out, HSt.out]; simp), thru HB0.out (thru HBw.out HB2.out)⟩
                · go_wp2_with fail
                  go_region_held3 (fun w' => (w'.cell? ⟨W.heap.size, 3, none⟩ = some (.slice (some ⟨b1, off1, none⟩) m cap1) ∧ w'.cell? ⟨W.heap.size + 1, 3, none⟩ = some (.slice (some ⟨b2, off2, none⟩) m cap2)) ∧ (w'.cell? ⟨b1, off1 + kk * 5, none⟩ = some (.string x.op) ∧ w'.cell? ⟨b1, off1 + kk * 5 + 1, none⟩ = some (.string x.nm) ∧ w'.cell? ⟨b1, off1 + kk * 5 + 2, none⟩ = some (.int .i64 x.n) ∧ w'.cell? ⟨b1, off1 + kk * 5 + 3, none⟩ = some (.slice D1 x.l.length d1) ∧ w'.cell? ⟨b1, off1 + kk * 5 + 4, none⟩ = some (.int .i64 x.a)) ∧ w'.cell? ⟨b2, off2 + kk * 5, none⟩ = some (.string y.op) ∧ w'.cell? ⟨b2, off2 + kk * 5 + 1, none⟩ = some (.string y.nm) ∧ w'.cell? ⟨b2, off2 + kk * 5 + 2, none⟩ = some (.int .i64 y.n) ∧ w'.cell? ⟨b2, off2 + kk * 5 + 3, none⟩ = some (.slice D2 y.l.length d2) ∧ w'.cell? ⟨b2, off2 + kk * 5 + 4, none⟩ = some (.int .i64 y.a))
                    (first | (with_reducible exact S0.out) | (with_reducible exact S1.out))
                    (first
                    | (go_at_call 27; have HX := HC.out; (with_reducible refine HX.mono ?_); clear HX; rintro e w1 ⟨rfl, hb⟩; have HB2 := Lib.hid (thru HBd.out hb); have S1 := Lib.hid (HSS.out _ HB2.out); clear hb))
                  all_goals go_wp2_with fail
                  all_goals go_roundw
                  case rel => exact ⟨kk + 1, by go_num, hlt, Lib.hid (by rw [← HEq.out, HSt.out, Bool.true_and]), thru HBw.out HB2.out⟩
                  case measure => simp [RowKit.intOf]; omega
              · have he : kk = m := by omega
                subst he
                have HT : Hid (p = true) := Lib.hid (by rw [← HEq.out, List.drop_eq_nil_of_le (by rw [HM1.out]; exact Nat.le_refl _), List.drop_eq_nil_of_le (by rw [HM2.out]; exact Nat.le_refl _)]; rfl)
                go_wp2_with fail
                go_ret
                exact ⟨ret_bool (by rw [HT.out]; rfl), thru HB0.out hbw⟩
          · have hneq : ((l.length : Int) != (r.length : Int)) = true := by simp; omega
            have HF : Hid (p = false) := Lib.hid (by rw [HP.out, sameL_F]; exact sameF_len _ hlen)
            clear hlen
            go_enter Tryd.func27, Tryd.ntmps27
            go_upto_region 1 with fail
            rw [← HW0.out]
            go_wp2_with fail
            go_ret
            exact ⟨ret_bool (by rw [HF.out]; rfl), HB0.out⟩
end
end Go.Proofs.YtpccomjgoclmgaaDoor
