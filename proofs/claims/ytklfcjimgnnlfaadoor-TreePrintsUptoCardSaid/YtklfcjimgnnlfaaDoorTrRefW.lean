/- The tree layer: the document's Whole of an expression. -/
import Derived.Test.YtklfcjimgnnlfaaDoorTrRefM
import Derived.Test.YtklfcjimgnnlfaaDoorTrSame
import Derived.Deep.CutBlock
import Derived.Deep.DeepCutAuto
namespace Go.Proofs.YtklfcjimgnnlfaaDoor
open Go.RowKit
theorem many_cases {o : ByteArray} {mm : Nat} (h : manyO o = some mm) : (o = ⟨#[110, 117, 109]⟩ ∧ mm = 0) ∨ (o = ⟨#[110, 97, 109, 101]⟩ ∧ mm = 0) ∨ (o = ⟨#[116, 114, 117, 101]⟩ ∧ mm = 0) ∨ (o = ⟨#[102, 97, 108, 115, 101]⟩ ∧ mm = 0) ∨ (o = ⟨#[97, 116]⟩ ∧ mm = 1) ∨ (o = ⟨#[110, 101, 103]⟩ ∧ mm = 1) ∨ (o = ⟨#[110, 111, 116]⟩ ∧ mm = 1) ∨ (o = ⟨#[43]⟩ ∧ mm = 2) ∨ (o = ⟨#[45]⟩ ∧ mm = 2) ∨ (o = ⟨#[42]⟩ ∧ mm = 2) ∨ (o = ⟨#[47]⟩ ∧ mm = 2) ∨ (o = ⟨#[61, 61]⟩ ∧ mm = 2) ∨ (o = ⟨#[33, 61]⟩ ∧ mm = 2) ∨ (o = ⟨#[60]⟩ ∧ mm = 2) ∨ (o = ⟨#[60, 61]⟩ ∧ mm = 2) ∨ (o = ⟨#[62]⟩ ∧ mm = 2) ∨ (o = ⟨#[62, 61]⟩ ∧ mm = 2) ∨ (o = ⟨#[38, 38]⟩ ∧ mm = 2) ∨ (o = ⟨#[124, 124]⟩ ∧ mm = 2) := by
  unfold manyO at h
  split at h
  · rename_i c
    injection h with h
    subst h
    simp only [Bool.or_eq_true] at c
    rcases c with c | c | c | c
    · exact .inl ⟨lit_of c, rfl⟩
    · exact .inr (.inl ⟨lit_of c, rfl⟩)
    · exact .inr (.inr (.inl ⟨lit_of c, rfl⟩))
    · exact .inr (.inr (.inr (.inl ⟨lit_of c, rfl⟩)))
  · split at h
    · rename_i c
      injection h with h
      subst h
      simp only [Bool.or_eq_true] at c
      rcases c with c | c | c
      · exact .inr (.inr (.inr (.inr (.inl ⟨lit_of c, rfl⟩))))
      · exact .inr (.inr (.inr (.inr (.inr (.inl ⟨lit_of c, rfl⟩)))))
      · exact .inr (.inr (.inr (.inr (.inr (.inr (.inl ⟨lit_of c, rfl⟩))))))
    · split at h
      · rename_i c
        injection h with h
        subst h
        have hm : o.toList ∈ twos := List.contains_iff_mem.1 c
        have q : o = ⟨(o.toList).toArray⟩ := lit_of (beq_self_eq_true _)
        generalize o.toList = t at hm q
        subst q
        simp only [twos, List.mem_cons, List.not_mem_nil, or_false] at hm
        refine .inr (.inr (.inr (.inr (.inr (.inr (.inr ?_))))))
        rcases hm with rfl | rfl | rfl | rfl | rfl | rfl | rfl | rfl | rfl | rfl | rfl | rfl
        all_goals simp
      · cases h
theorem many_none {o : ByteArray} (h : manyO o = none) : (o.toList == [110, 117, 109]) = false ∧ (o.toList == [110, 97, 109, 101]) = false ∧ (o.toList == [116, 114, 117, 101]) = false ∧ (o.toList == [102, 97, 108, 115, 101]) = false ∧ (o.toList == [97, 116]) = false ∧ (o.toList == [110, 101, 103]) = false ∧ (o.toList == [110, 111, 116]) = false ∧ (o.toList == [43]) = false ∧ (o.toList == [45]) = false ∧ (o.toList == [42]) = false ∧ (o.toList == [47]) = false ∧ (o.toList == [61, 61]) = false ∧ (o.toList == [33, 61]) = false ∧ (o.toList == [60]) = false ∧ (o.toList == [60, 61]) = false ∧ (o.toList == [62]) = false ∧ (o.toList == [62, 61]) = false ∧ (o.toList == [38, 38]) = false ∧ (o.toList == [124, 124]) = false := by
  refine ⟨?_, ?_, ?_, ?_, ?_, ?_, ?_, ?_, ?_, ?_, ?_, ?_, ?_, ?_, ?_, ?_, ?_, ?_, ?_⟩
  all_goals
    apply Bool.eq_false_iff.2
    intro c
    have e := lit_of c
    subst e
    revert h
    decide +kernel
section
set_option maxRecDepth 100000 in
set_option maxHeartbeats 6400000 in
theorem rwhole_any (n : Nat) : ∀ (P : Nat → Prop) (l : List Ex) (v : Value) (op nm : ByteArray) (q a : Int) (W : World), ExR P n W l v → (∀ b, P b → b < W.heap.size) → Calls Tryd.prog 50 #[exV op nm q v a] W (fun e w' => e = .returned (.bool (headOk op q l.length && wholeL l)) ∧ Below W.heap.size W w') := by
  induction n with
  | zero => intro P l v op nm q a W h; exact h.elim
  | succ n ih =>
    intro P l v op nm q a W h hP
    obtain ⟨A, cap, rfl, hc, hl, hat⟩ := h
    have HAt := Lib.hid hat
    have HIH := Lib.hid ih
    have hl2 : l.length ≤ 2199023255552 := by omega
    clear hat ih hl
    obtain ⟨m, hm⟩ : ∃ m, l.length = m := ⟨_, rfl⟩
    have HM := Lib.hid hm
    rw [hm] at hl2 hc ⊢
    clear hm
    obtain ⟨W0, hW0⟩ : ∃ W0, W0 = W.alloc (.cells #[.string op, .string nm, .int .i64 q, .slice A m cap, .int .i64 a] 104) := ⟨_, rfl⟩
    have HB0 : Hid (Below W.heap.size W W0) := Lib.hid (by rw [hW0]; exact (Below.refl _ _).alloc (Nat.le_refl _) _)
    have HK : Hid (Blk W0 W.heap.size 104 #[.string op, .string nm, .int .i64 q, .slice A m cap, .int .i64 a]) := Lib.hid (by rw [hW0]; exact Blk.new W _ _)
    have x0 := HK.out.cell 0
    have x2 := HK.out.cell 2
    have x3 := HK.out.cell 3
    simp at x0 x2 x3
    have HW0 := Lib.hid hW0
    clear hW0
    obtain ⟨r, hr⟩ : ∃ r, r = headOk op q m := ⟨_, rfl⟩
    rw [← hr]
    have HR := Lib.hid hr
    clear hr
    rcases hmany : manyO op with _ | mm
    · have HR2 : Hid (r = false) := Lib.hid (by rw [HR.out]; unfold headOk; rw [hmany]; rfl)
      obtain ⟨g0, g1, g2, g3, g4, g5, g6, g7, g8, g9, g10, g11, g12, g13, g14, g15, g16, g17, g18⟩ := many_none hmany
      clear hmany
      go_enter Tryd.func50, Tryd.ntmps50
      go_upto_region 1 with fail
      rw [← HW0.out]
      go_wp2_with fail
      go_ret
      exact ⟨by rw [HR2.out]; rfl, HB0.out⟩
    · have hmb : mm ≤ 2 := by
        rcases many_cases hmany with ⟨-, e⟩ | ⟨-, e⟩ | ⟨-, e⟩ | ⟨-, e⟩ | ⟨-, e⟩ | ⟨-, e⟩ | ⟨-, e⟩ | ⟨-, e⟩ | ⟨-, e⟩ | ⟨-, e⟩ | ⟨-, e⟩ | ⟨-, e⟩ | ⟨-, e⟩ | ⟨-, e⟩ | ⟨-, e⟩ | ⟨-, e⟩ | ⟨-, e⟩ | ⟨-, e⟩ | ⟨-, e⟩
        all_goals omega
      have HM2 := Lib.hid hmany
      clear hmany
      go_enter Tryd.func50, Tryd.ntmps50
      go_upto_region 1 with fail
      rw [← HW0.out]
      go_upto_block 0 with fail
      go_cut [3] (fun t3 wx => t3 = .int .i64 (mm : Int) ∧ wx = W0)
      case first =>
        have hc2 := many_cases HM2.out
        clear HIH HAt HR HB0 HK HW0 HM2 HM
        rcases hc2 with ⟨rfl, rfl⟩ | ⟨rfl, rfl⟩ | ⟨rfl, rfl⟩ | ⟨rfl, rfl⟩ | ⟨rfl, rfl⟩ | ⟨rfl, rfl⟩ | ⟨rfl, rfl⟩ | ⟨rfl, rfl⟩ | ⟨rfl, rfl⟩ | ⟨rfl, rfl⟩ | ⟨rfl, rfl⟩ | ⟨rfl, rfl⟩ | ⟨rfl, rfl⟩ | ⟨rfl, rfl⟩ | ⟨rfl, rfl⟩ | ⟨rfl, rfl⟩ | ⟨rfl, rfl⟩ | ⟨rfl, rfl⟩ | ⟨rfl, rfl⟩
        all_goals (go_wp2_with fail; go_meet; exact ⟨rfl, rfl⟩)
      case rest =>
        obtain ⟨rfl, hwc⟩ := hcut
        have hwc2 := hwc.symm
        subst hwc2
        clear hwc
        by_cases hlen : m = mm
        · obtain rfl := hlen
          have g0 : ((m : Int) != (m : Int)) = false := by simp
          cases hnum : (op.toList == [110, 117, 109])
          · have HR2 : Hid (r = true) := Lib.hid (by rw [HR.out]; unfold headOk; rw [HM2.out, show (op.toList == oNum) = false from hnum]; simp)
            clear HR HM2
            go_wp2_with fail
            go_loopw [4] (fun i wr => ∃ k : Nat, i = .int .i64 (k : Int) ∧ k ≤ m ∧ Hid (wholeL (l.take k) = true) ∧ Below W0.heap.size W0 wr) (fun i _ => m - (RowKit.intOf i).toNat)
            case atStart => exact ⟨0, rfl, Nat.zero_le _, Lib.hid (by rw [List.take_zero]; rfl), Below.refl _ _⟩
            case round =>
              obtain ⟨k, rfl, hk, HWh, hbw⟩ := hrel
              have z3 := (HK.out.below hbw HK.out.lt).cell 3
              simp at z3
              by_cases hlt : k < m
              · obtain ⟨x, hx⟩ : ∃ x, l[k]? = some x := ⟨l[k]'(by rw [HM.out]; exact hlt), List.getElem?_eq_getElem _⟩
                obtain ⟨b, off, L, rfl, hbB, hat, -, -, hr⟩ := HAt.out k x hx
                have hbB2 : Below W.heap.size W wr := thru HB0.out hbw
                obtain ⟨y0, y1, y2, y3, y4⟩ := hat.below hbB2 (hP b hbB)
                obtain ⟨A', cap', rfl, hc', -⟩ := hr.slice
                obtain ⟨bx, hbx⟩ : ∃ bx, bx = wholeE x := ⟨_, rfl⟩
                have HS : Hid (wholeL (l.take (k + 1)) = bx) := Lib.hid (by rw [wholeL_take hx, HWh.out, hbx]; rfl)
                have HF : Hid (bx = false → wholeL l = false) := Lib.hid (fun e => by
                  cases z : wholeL l with
                  | false => rfl
                  | true => rw [hbx, wholeL_at z hx] at e; cases e)
                have HC : Hid (Calls Tryd.prog 50 #[exV x.op x.nm x.n (.slice A' x.l.length cap') x.a] wr (fun e w' => e = .returned (.bool bx) ∧ Below wr.heap.size wr w')) := Lib.hid (by
                  rw [hbx, wholeE_X]
                  exact HIH.out P x.l _ _ _ _ _ wr (hr.below hbB2 hP) (lo_up hP hbB2.size))
                have HBw := Lib.hid hbw
                have hs := HBw.out.size
                clear hbx hat hr hbw hbB2 HWh x0 x2 x3 hx
                cases bx
                · have HF2 := Lib.hid (HF.out rfl)
                  clear HF
                  go_wp2_with (go_at_call 50; have HX := HC.out; (with_reducible refine HX.mono ?_); clear HX; rintro e w1 ⟨rfl, hb⟩; have HB2 := Lib.hid hb; clear hb)
                  go_ret
                  exact ⟨ret_bool (by rw [HF2.out, Bool.and_false]), HB0.out.trans ((HBw.out.trans (HB2.out.mono hs)).mono HB0.out.size)⟩
                · go_wp2_with (go_at_call 50; have HX := HC.out; (with_reducible refine HX.mono ?_); clear HX; rintro e w1 ⟨rfl, hb⟩; have HB2 := Lib.hid hb; clear hb)
                  go_roundw
                  case rel => exact ⟨k + 1, by go_num, hlt, HS, HBw.out.trans (HB2.out.mono hs)⟩
                  case measure => simp [RowKit.intOf]; omega
              · have he : k = m := by omega
                subst he
                have HF : Hid (wholeL l = true) := Lib.hid (by rw [← HWh.out, ← HM.out, List.take_length])
                clear HWh
                go_wp2_with fail
                go_ret
                exact ⟨ret_bool (by rw [HF.out, HR2.out]; rfl), HB0.out.trans (hbw.mono HB0.out.size)⟩
          · by_cases hneg : q < 0
            · have HR2 : Hid (r = false) := Lib.hid (by rw [HR.out]; unfold headOk; rw [HM2.out, show (op.toList == oNum) = true from hnum]; simp [hneg])
              go_wp2_with fail
              go_ret
              exact ⟨by rw [HR2.out]; rfl, HB0.out⟩
            · have HR2 : Hid (r = true) := Lib.hid (by rw [HR.out]; unfold headOk; rw [HM2.out, show (op.toList == oNum) = true from hnum]; simp [hneg])
              clear HR HM2
              go_wp2_with fail
              go_loopw [4] (fun i wr => ∃ k : Nat, i = .int .i64 (k : Int) ∧ k ≤ m ∧ Hid (wholeL (l.take k) = true) ∧ Below W0.heap.size W0 wr) (fun i _ => m - (RowKit.intOf i).toNat)
              case atStart => exact ⟨0, rfl, Nat.zero_le _, Lib.hid (by rw [List.take_zero]; rfl), Below.refl _ _⟩
              case round =>
                obtain ⟨k, rfl, hk, HWh, hbw⟩ := hrel
                have z3 := (HK.out.below hbw HK.out.lt).cell 3
                simp at z3
                by_cases hlt : k < m
                · obtain ⟨x, hx⟩ : ∃ x, l[k]? = some x := ⟨l[k]'(by rw [HM.out]; exact hlt), List.getElem?_eq_getElem _⟩
                  obtain ⟨b, off, L, rfl, hbB, hat, -, -, hr⟩ := HAt.out k x hx
                  have hbB2 : Below W.heap.size W wr := thru HB0.out hbw
                  obtain ⟨y0, y1, y2, y3, y4⟩ := hat.below hbB2 (hP b hbB)
                  obtain ⟨A', cap', rfl, hc', -⟩ := hr.slice
                  obtain ⟨bx, hbx⟩ : ∃ bx, bx = wholeE x := ⟨_, rfl⟩
                  have HS : Hid (wholeL (l.take (k + 1)) = bx) := Lib.hid (by rw [wholeL_take hx, HWh.out, hbx]; rfl)
                  have HF : Hid (bx = false → wholeL l = false) := Lib.hid (fun e => by
                    cases z : wholeL l with
                    | false => rfl
                    | true => rw [hbx, wholeL_at z hx] at e; cases e)
                  have HC : Hid (Calls Tryd.prog 50 #[exV x.op x.nm x.n (.slice A' x.l.length cap') x.a] wr (fun e w' => e = .returned (.bool bx) ∧ Below wr.heap.size wr w')) := Lib.hid (by
                    rw [hbx, wholeE_X]
                    exact HIH.out P x.l _ _ _ _ _ wr (hr.below hbB2 hP) (lo_up hP hbB2.size))
                  have HBw := Lib.hid hbw
                  have hs := HBw.out.size
                  clear hbx hat hr hbw hbB2 HWh x0 x2 x3 hx
                  cases bx
                  · have HF2 := Lib.hid (HF.out rfl)
                    clear HF
                    go_wp2_with (go_at_call 50; have HX := HC.out; (with_reducible refine HX.mono ?_); clear HX; rintro e w1 ⟨rfl, hb⟩; have HB2 := Lib.hid hb; clear hb)
                    go_ret
                    exact ⟨ret_bool (by rw [HF2.out, Bool.and_false]), HB0.out.trans ((HBw.out.trans (HB2.out.mono hs)).mono HB0.out.size)⟩
                  · go_wp2_with (go_at_call 50; have HX := HC.out; (with_reducible refine HX.mono ?_); clear HX; rintro e w1 ⟨rfl, hb⟩; have HB2 := Lib.hid hb; clear hb)
                    go_roundw
                    case rel => exact ⟨k + 1, by go_num, hlt, HS, HBw.out.trans (HB2.out.mono hs)⟩
                    case measure => simp [RowKit.intOf]; omega
                · have he : k = m := by omega
                  subst he
                  have HF : Hid (wholeL l = true) := Lib.hid (by rw [← HWh.out, ← HM.out, List.take_length])
                  clear HWh
                  go_wp2_with fail
                  go_ret
                  exact ⟨ret_bool (by rw [HF.out, HR2.out]; rfl), HB0.out.trans (hbw.mono HB0.out.size)⟩
        · have g0 : ((m : Int) != (mm : Int)) = true := by simp; omega
          have HR2 : Hid (r = false) := Lib.hid (by rw [HR.out]; unfold headOk; rw [HM2.out]; simp; intro e; exact absurd e.symm hlen)
          clear hlen
          go_wp2_with fail
          go_ret
          exact ⟨by rw [HR2.out]; rfl, HB0.out⟩
end
end Go.Proofs.YtklfcjimgnnlfaaDoor
