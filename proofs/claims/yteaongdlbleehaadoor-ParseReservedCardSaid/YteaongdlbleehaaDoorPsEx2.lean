/- The parse layer: a part of an expression. -/
import Derived.Test.YteaongdlbleehaaDoorPsEx1
namespace Go.Proofs.YteaongdlbleehaaDoor
open Go.RowKit
attribute [local go_sem] field_at field_tx field_nn
section
variable {B b len k d n : Nat} {M : Value} {s : PS} {w : World}
set_option maxHeartbeats 6400000 in
set_option maxRecDepth 100000 in
theorem ppart_step {f : Nat} (ihp : PXp B b len M k f) (ihs : PXs B b len M k f) : PXp B b len M k (f + 1) := by
  intro d s w h hdk hf
  obtain ⟨W0, hW0⟩ : ∃ W0, W0 = w.alloc (.cells #[.string ⟨#[]⟩, .string ⟨#[]⟩, .int .i64 0, .slice none 0 0, .int .i64 0] 24) := ⟨_, rfl⟩
  have B0 : Hid (Below w.heap.size w W0) := Lib.hid (by rw [hW0]; exact (Below.refl _ _).alloc (Nat.le_refl _) _)
  have K0 : Hid (Blk W0 w.heap.size 24 #[.string ⟨#[]⟩, .string ⟨#[]⟩, .int .i64 0, .slice none 0 0, .int .i64 0]) := Lib.hid (by rw [hW0]; exact Blk.new w _ _)
  have P0 := Lib.hid (h.below B0.out)
  have D0 := Lib.hid (Pd.of_below B0.out b)
  have HW0 := Lib.hid hW0
  have HG : Hid (b ≠ w.heap.size ∧ B ≤ w.heap.size ∧ b < w.heap.size) := Lib.hid ⟨Nat.ne_of_lt h.lt, Nat.le_trans h.lo (Nat.le_of_lt h.lt), h.lt⟩
  have HN := Lib.hid (next_any P0.out)
  obtain ⟨t, ht⟩ : ∃ t, t = nxt len s := ⟨_, rfl⟩
  have hb3 := nxt_b (len := len) h.hl h.tb
  rw [← ht] at HN hb3
  have HAt : Hid (In64 (t.at_ : Int)) := Lib.hid (in64_small (by omega))
  have HNn : Hid (In64 (t.n : Int)) := Lib.hid (in64_small hb3.2.1)
  have HT0 := Lib.hid ht
  have HDk := Lib.hid hdk
  have HF := Lib.hid hf
  have HIs : Hid (∀ w, Calls Tryd.prog 62 #[tkV t] w fun e w' => e = .returned (.bool (isNm t)) ∧ Below w.heap.size w w') := Lib.hid (isName_any t)
  have HTk : Hid (∀ w, Par B b len M k d s w → Calls Tryd.prog 37 #[.pointer (some ⟨b, 0, none⟩)] w (RetP B b len M k d (tkV t) (takeF s) w)) := Lib.hid fun w h => by rw [ht]; exact take_any h
  unfold tkV at HN HIs HTk
  obtain ⟨tx, htx⟩ : ∃ q, q = bA t.text := ⟨_, rfl⟩
  have HTx : Hid (tx.toList = t.text) := Lib.hid (by rw [htx, bA_list])
  have HTb : Hid (bA t.text = tx) := Lib.hid htx.symm
  rw [← htx] at HN HIs HTk
  clear hW0 ht htx hf h hdk hb3
  go_enter Tryd.func35, Tryd.ntmps35
  go_upto_region 1 with fail
  rw [← HW0.out]
  go_upto_region 2 with (go_at_call 34; have HX := HN.out; (with_reducible refine HX.mono ?_); clear HX; rintro e w1 ⟨rfl, hb⟩; have B1 := Lib.hid (thru B0.out hb); have P1 := Lib.hid (P0.out.below hb); have K1 := Lib.hid (K0.out.below hb K0.out.lt); clear hb)
  obtain ⟨W2, hW2⟩ : ∃ W2, W2 = w1.alloc (.cells #[.int .i64 (t.kind : Int), .string tx, .int .i64 (t.n : Int), .int .i64 (t.at_ : Int)] 77) := ⟨_, rfl⟩
  have E2 : Hid (Below w1.heap.size w1 W2) := Lib.hid (by rw [hW2]; exact (Below.refl _ _).alloc (Nat.le_refl _) _)
  have D2 := Lib.hid (Pd.of_below (thru B1.out E2.out) b)
  have P2 := Lib.hid (P1.out.below E2.out)
  have K2 := Lib.hid (K1.out.below E2.out K1.out.lt)
  have T2 : Hid (Blk W2 w1.heap.size 77 #[.int .i64 (t.kind : Int), .string tx, .int .i64 (t.n : Int), .int .i64 (t.at_ : Int)]) := Lib.hid (by rw [hW2]; exact Blk.new w1 _ _)
  have HT : Hid (w.heap.size ≠ w1.heap.size ∧ b ≠ w1.heap.size) := Lib.hid ⟨Nat.ne_of_lt K1.out.lt, Nat.ne_of_lt P1.out.lt⟩
  rw [← hW2]
  clear hW2 HN HW0
  have t0 := T2.out.cell 0
  have t1 := T2.out.cell 1
  have t2 := T2.out.cell 2
  have t3 := T2.out.cell 3
  simp at t0 t1 t2 t3
  cases he : (tx.toList == [45])
  · have het1 : (t.text == [45]) = false := by rw [← HTx.out]; exact he
    have he1 := he
    clear he
    cases he : (tx.toList == [33])
    · have het2 : (t.text == [33]) = false := by rw [← HTx.out]; exact he
      have he2 := he
      clear he
      cases he : (tx.toList == [40])
      · have het3 : (t.text == [40]) = false := by rw [← HTx.out]; exact he
        have he3 := he
        clear he
        cases he : (tx.toList == [116, 114, 117, 101])
        · have hea : (t.text == oTrue) = false := by rw [← HTx.out]; exact he
          have he4 := he
          clear he
          cases he : (tx.toList == [102, 97, 108, 115, 101])
          · have het4 : ((t.text == oTrue) || (t.text == oFalse)) = false := by rw [hea, show (t.text == oFalse) = false from by rw [← HTx.out]; exact he]; rfl
            have he5 := he
            clear he hea
            by_cases hk : t.kind = 1
            · have HE : Hid (exF len (f + 1) .part d s = (takeF s, .mk ⟨#[110, 117, 109]⟩ ⟨#[]⟩ (t.n : Int) [] (t.at_ : Int))) := Lib.hid (by
                simp only [exF]
                rw [← HT0.out, het1, het2, het3, het4, hk]; rfl)
              have gk : ((t.kind : Int) == 1) = true := by rw [hk]; rfl
              clear hk
              go_wp2_with (go_at_call 37; have HX := HTk.out _ P2.out; (with_reducible refine HX.mono ?_); clear HX; rintro e w3 ⟨rfl, hp, hd3⟩; have P3 := Lib.hid hp; have D3 := Lib.hid (D2.out.trans hd3); have K3 := Lib.hid (hd3.blk K2.out HG.out.1.symm); have T3 := Lib.hid (hd3.blk T2.out HT.out.2.symm); have r0 := K3.out.cell 0; have r1 := K3.out.cell 1; have r2 := K3.out.cell 2; have r3 := K3.out.cell 3; have r4 := K3.out.cell 4; have rf0 := K3.out.frozen 0; have rf1 := K3.out.frozen 1; have rf2 := K3.out.frozen 2; have rf3 := K3.out.frozen 3; have rf4 := K3.out.frozen 4; have rl := K3.out.lt; simp at r0 r1 r2 r3 r4; have u0 := T3.out.cell 0; have u1 := T3.out.cell 1; have u2 := T3.out.cell 2; have u3 := T3.out.cell 3; simp at u0 u1 u2 u3; clear hp hd3)
              have X3 : Hid (ExR (fun q => w.heap.size ≤ q ∧ q < w3.heap.size ∧ q ≠ w.heap.size) (0 + 1) w3 [] (.slice none 0 0)) := Lib.hid exr_nil
              have q := ex_box K3.out (.string ⟨#[110, 117, 109]⟩) (.string ⟨#[]⟩) (.int .i64 (t.n : Int)) (.slice none 0 0) (.int .i64 (t.at_ : Int))
              have q0 := q.cell 0
              have q1 := q.cell 1
              have q2 := q.cell 2
              have q3 := q.cell 3
              have q4 := q.cell 4
              simp at q0 q1 q2 q3 q4
              have HZ := fin_ex P3.out D3.out (Nat.le_refl _) HG.out.1 HG.out.2.1 X3.out (.string ⟨#[110, 117, 109]⟩) (.string ⟨#[]⟩) (.int .i64 (t.n : Int)) (.slice none 0 0) (.int .i64 (t.at_ : Int))
              rw [HE.out]
              refine bodyPost_ret (v := exV ⟨#[110, 117, 109]⟩ ⟨#[]⟩ (t.n : Int) (.slice none 0 0) (t.at_ : Int)) (by simp [results, Tryd.results35, go_sem, q0, q1, q2, q3, q4]) rfl ⟨_, _, _, _, rfl, HZ.1, HZ.2.1, HNn.out, HAt.out, HZ.2.2⟩
            · cases hi : isNm t
              · have HE : Hid (exF len (f + 1) .part d s = (failF len 130 s, ex0)) := Lib.hid (by
                  simp only [exF]
                  rw [← HT0.out, het1, het2, het3, het4, if_neg hk, hi]; rfl)
                have gk : ((t.kind : Int) == 1) = false := by simp; omega
                rw [hi] at HIs
                clear hk hi
                go_wp2_with (first
                  | (go_at_call 62; have HX := HIs.out W2; (with_reducible refine HX.mono ?_); clear HX; rintro e w9 ⟨rfl, hb⟩; have P9 := Lib.hid (P2.out.below hb); have D9 := Lib.hid (D2.out.then_ hb); have K9 := Lib.hid (K2.out.below hb K2.out.lt); clear hb)
                  | (go_at_call 15; have HX := fail_p P9.out; (with_reducible refine HX.mono ?_); clear HX; rintro e w3 ⟨rfl, hp, hd3⟩; have P3 := Lib.hid hp; have D3 := Lib.hid (D9.out.trans hd3); have K3 := Lib.hid (hd3.blk K9.out HG.out.1.symm); have r0 := K3.out.cell 0; have r1 := K3.out.cell 1; have r2 := K3.out.cell 2; have r3 := K3.out.cell 3; have r4 := K3.out.cell 4; have rf0 := K3.out.frozen 0; have rf1 := K3.out.frozen 1; have rf2 := K3.out.frozen 2; have rf3 := K3.out.frozen 3; have rf4 := K3.out.frozen 4; have rl := K3.out.lt; simp at r0 r1 r2 r3 r4; clear hp hd3))
                have X3 : Hid (ExR (fun q => w.heap.size ≤ q ∧ q < w3.heap.size ∧ q ≠ w.heap.size) (0 + 1) w3 [] (.slice none 0 0)) := Lib.hid exr_nil
                have q := ex_box K3.out (.string ⟨#[]⟩) (.string ⟨#[]⟩) (.int .i64 0) (.slice none 0 0) (.int .i64 0)
                have q0 := q.cell 0
                have q1 := q.cell 1
                have q2 := q.cell 2
                have q3 := q.cell 3
                have q4 := q.cell 4
                simp at q0 q1 q2 q3 q4
                have HZ := fin_ex P3.out D3.out (Nat.le_refl _) HG.out.1 HG.out.2.1 X3.out (.string ⟨#[]⟩) (.string ⟨#[]⟩) (.int .i64 0) (.slice none 0 0) (.int .i64 0)
                rw [HE.out]
                refine bodyPost_ret (v := exV ⟨#[]⟩ ⟨#[]⟩ 0 (.slice none 0 0) 0) (by simp [results, Tryd.results35, go_sem, q0, q1, q2, q3, q4]) rfl ⟨_, _, _, _, rfl, HZ.1, HZ.2.1, in64_zero, in64_zero, HZ.2.2⟩
              · have hne : s.ts ≠ [] := by intro e; have q := nxt_nil (len := len) e; rw [← HT0.out] at q; rw [q] at hi; cases hi
                obtain ⟨r, hr⟩ : ∃ q, q = exF len (f + 1) .part d s := ⟨_, rfl⟩
                have HC : Hid (∀ w, Par B b len M k d s w → Calls Tryd.prog 63 #[.pointer (some ⟨b, 0, none⟩)] w (RetX B b len M k d r w)) := Lib.hid fun w h => by
                  rw [hr]
                  simp only [exF]
                  rw [← HT0.out, het1, het2, het3, het4, if_neg hk, hi]
                  have := named_any ihs (HDk.out.2 hne) h (by have := HF.out; omega)
                  rw [← HT0.out] at this
                  exact this
                have HRr := Lib.hid hr.symm
                have gk : ((t.kind : Int) == 1) = false := by simp; omega
                rw [hi] at HIs
                clear hr hne hk hi
                go_wp2_with (first
                  | (go_at_call 62; have HX := HIs.out W2; (with_reducible refine HX.mono ?_); clear HX; rintro e w9 ⟨rfl, hb⟩; have P9 := Lib.hid (P2.out.below hb); have D9 := Lib.hid (D2.out.then_ hb); have K9 := Lib.hid (K2.out.below hb K2.out.lt); clear hb)
                  | (go_at_call 63; have HX := HC.out _ P9.out; (with_reducible refine HX.mono ?_); clear HX; rintro e w3 ⟨nL, AL, mL, cL, rfl, hp, hd3, hi1, hi2, hr3⟩; have P3 := Lib.hid hp; have D3 := Lib.hid (D9.out.trans hd3); have K3 := Lib.hid (hd3.blk K9.out HG.out.1.symm); have X3 : Hid (ExR (fun q => w.heap.size ≤ q ∧ q < w3.heap.size ∧ q ≠ w.heap.size) nL w3 r.2.l (.slice AL mL cL)) := Lib.hid (hr3.wide (fun q hq => ⟨Nat.le_trans D9.out.size hq.1, hq.2, by have := K9.out.lt; have := hq.1; omega⟩)); have I1 := Lib.hid hi1; have I2 := Lib.hid hi2; have r0 := K3.out.cell 0; have r1 := K3.out.cell 1; have r2 := K3.out.cell 2; have r3 := K3.out.cell 3; have r4 := K3.out.cell 4; have rf0 := K3.out.frozen 0; have rf1 := K3.out.frozen 1; have rf2 := K3.out.frozen 2; have rf3 := K3.out.frozen 3; have rf4 := K3.out.frozen 4; have rl := K3.out.lt; simp at r0 r1 r2 r3 r4; clear hp hd3 hr3 hi1 hi2))
                have q := ex_box K3.out (.string r.2.op) (.string r.2.nm) (.int .i64 r.2.n) (.slice AL mL cL) (.int .i64 r.2.a)
                have q0 := q.cell 0
                have q1 := q.cell 1
                have q2 := q.cell 2
                have q3 := q.cell 3
                have q4 := q.cell 4
                simp at q0 q1 q2 q3 q4
                have HZ := fin_ex P3.out D3.out (Nat.le_refl _) HG.out.1 HG.out.2.1 X3.out (.string r.2.op) (.string r.2.nm) (.int .i64 r.2.n) (.slice AL mL cL) (.int .i64 r.2.a)
                rw [HRr.out]
                refine bodyPost_ret (v := exV r.2.op r.2.nm r.2.n (.slice AL mL cL) r.2.a) (by simp [results, Tryd.results35, go_sem, q0, q1, q2, q3, q4]) rfl ⟨_, _, _, _, rfl, HZ.1, HZ.2.1, I1.out, I2.out, HZ.2.2⟩
          · have het : ((t.text == oTrue) || (t.text == oFalse)) = true := by rw [show (t.text == oFalse) = true from by rw [← HTx.out]; exact he]; exact Bool.or_true _
            have HE : Hid (exF len (f + 1) .part d s = (takeF s, .mk tx ⟨#[]⟩ 0 [] (t.at_ : Int))) := Lib.hid (by
              simp only [exF]
              rw [← HT0.out, het1, het2, het3, het, HTb.out]; rfl)
            clear het
            go_wp2_with (go_at_call 37; have HX := HTk.out _ P2.out; (with_reducible refine HX.mono ?_); clear HX; rintro e w3 ⟨rfl, hp, hd3⟩; have P3 := Lib.hid hp; have D3 := Lib.hid (D2.out.trans hd3); have K3 := Lib.hid (hd3.blk K2.out HG.out.1.symm); have T3 := Lib.hid (hd3.blk T2.out HT.out.2.symm); have r0 := K3.out.cell 0; have r1 := K3.out.cell 1; have r2 := K3.out.cell 2; have r3 := K3.out.cell 3; have r4 := K3.out.cell 4; have rf0 := K3.out.frozen 0; have rf1 := K3.out.frozen 1; have rf2 := K3.out.frozen 2; have rf3 := K3.out.frozen 3; have rf4 := K3.out.frozen 4; have rl := K3.out.lt; simp at r0 r1 r2 r3 r4; have u0 := T3.out.cell 0; have u1 := T3.out.cell 1; have u2 := T3.out.cell 2; have u3 := T3.out.cell 3; simp at u0 u1 u2 u3; clear hp hd3)
            have X3 : Hid (ExR (fun q => w.heap.size ≤ q ∧ q < w3.heap.size ∧ q ≠ w.heap.size) (0 + 1) w3 [] (.slice none 0 0)) := Lib.hid exr_nil
            have q := ex_box K3.out (.string tx) (.string ⟨#[]⟩) (.int .i64 0) (.slice none 0 0) (.int .i64 (t.at_ : Int))
            have q0 := q.cell 0
            have q1 := q.cell 1
            have q2 := q.cell 2
            have q3 := q.cell 3
            have q4 := q.cell 4
            simp at q0 q1 q2 q3 q4
            have HZ := fin_ex P3.out D3.out (Nat.le_refl _) HG.out.1 HG.out.2.1 X3.out (.string tx) (.string ⟨#[]⟩) (.int .i64 0) (.slice none 0 0) (.int .i64 (t.at_ : Int))
            rw [HE.out]
            refine bodyPost_ret (v := exV tx ⟨#[]⟩ 0 (.slice none 0 0) (t.at_ : Int)) (by simp [results, Tryd.results35, go_sem, q0, q1, q2, q3, q4]) rfl ⟨_, _, _, _, rfl, HZ.1, HZ.2.1, in64_zero, HAt.out, HZ.2.2⟩
        · have het : ((t.text == oTrue) || (t.text == oFalse)) = true := by rw [show (t.text == oTrue) = true from by rw [← HTx.out]; exact he]; rfl
          have HE : Hid (exF len (f + 1) .part d s = (takeF s, .mk tx ⟨#[]⟩ 0 [] (t.at_ : Int))) := Lib.hid (by
            simp only [exF]
            rw [← HT0.out, het1, het2, het3, het, HTb.out]; rfl)
          clear het
          go_wp2_with (go_at_call 37; have HX := HTk.out _ P2.out; (with_reducible refine HX.mono ?_); clear HX; rintro e w3 ⟨rfl, hp, hd3⟩; have P3 := Lib.hid hp; have D3 := Lib.hid (D2.out.trans hd3); have K3 := Lib.hid (hd3.blk K2.out HG.out.1.symm); have T3 := Lib.hid (hd3.blk T2.out HT.out.2.symm); have r0 := K3.out.cell 0; have r1 := K3.out.cell 1; have r2 := K3.out.cell 2; have r3 := K3.out.cell 3; have r4 := K3.out.cell 4; have rf0 := K3.out.frozen 0; have rf1 := K3.out.frozen 1; have rf2 := K3.out.frozen 2; have rf3 := K3.out.frozen 3; have rf4 := K3.out.frozen 4; have rl := K3.out.lt; simp at r0 r1 r2 r3 r4; have u0 := T3.out.cell 0; have u1 := T3.out.cell 1; have u2 := T3.out.cell 2; have u3 := T3.out.cell 3; simp at u0 u1 u2 u3; clear hp hd3)
          have X3 : Hid (ExR (fun q => w.heap.size ≤ q ∧ q < w3.heap.size ∧ q ≠ w.heap.size) (0 + 1) w3 [] (.slice none 0 0)) := Lib.hid exr_nil
          have q := ex_box K3.out (.string tx) (.string ⟨#[]⟩) (.int .i64 0) (.slice none 0 0) (.int .i64 (t.at_ : Int))
          have q0 := q.cell 0
          have q1 := q.cell 1
          have q2 := q.cell 2
          have q3 := q.cell 3
          have q4 := q.cell 4
          simp at q0 q1 q2 q3 q4
          have HZ := fin_ex P3.out D3.out (Nat.le_refl _) HG.out.1 HG.out.2.1 X3.out (.string tx) (.string ⟨#[]⟩) (.int .i64 0) (.slice none 0 0) (.int .i64 (t.at_ : Int))
          rw [HE.out]
          refine bodyPost_ret (v := exV tx ⟨#[]⟩ 0 (.slice none 0 0) (t.at_ : Int)) (by simp [results, Tryd.results35, go_sem, q0, q1, q2, q3, q4]) rfl ⟨_, _, _, _, rfl, HZ.1, HZ.2.1, in64_zero, HAt.out, HZ.2.2⟩
      · have het : (t.text == [40]) = true := by rw [← HTx.out]; exact he
        have hne : (nxt len s).text ≠ [] := by rw [← HT0.out]; intro e; rw [e] at het; cases het
        obtain ⟨r, hr⟩ : ∃ q, q = exF len (f + 1) .part d s := ⟨_, rfl⟩
        have HC : Hid (∀ w, Par B b len M k d s w → Calls Tryd.prog 61 #[.pointer (some ⟨b, 0, none⟩), .string ⟨#[41]⟩] w (RetX B b len M k d r w)) := Lib.hid fun w h => by
          rw [hr]
          simp only [exF]
          rw [← HT0.out, het1, het2, het]
          exact (opened_any ihs [41] (HDk.out.2 (by intro e; rw [nxt_nil e] at hne; exact hne rfl)) h hne (by have := HF.out; omega))
        have HRr := Lib.hid hr.symm
        clear hr hne het
        go_wp2_with (go_at_call 61; have HX := HC.out _ P2.out; (with_reducible refine HX.mono ?_); clear HX; rintro e w3 ⟨nL, AL, mL, cL, rfl, hp, hd3, hi1, hi2, hr3⟩; have P3 := Lib.hid hp; have D3 := Lib.hid (D2.out.trans hd3); have K3 := Lib.hid (hd3.blk K2.out HG.out.1.symm); have X3 : Hid (ExR (fun q => w.heap.size ≤ q ∧ q < w3.heap.size ∧ q ≠ w.heap.size) nL w3 r.2.l (.slice AL mL cL)) := Lib.hid (hr3.wide (fun q hq => ⟨Nat.le_trans D2.out.size hq.1, hq.2, by have := K2.out.lt; have := hq.1; omega⟩)); have I1 := Lib.hid hi1; have I2 := Lib.hid hi2; have r0 := K3.out.cell 0; have r1 := K3.out.cell 1; have r2 := K3.out.cell 2; have r3 := K3.out.cell 3; have r4 := K3.out.cell 4; have rf0 := K3.out.frozen 0; have rf1 := K3.out.frozen 1; have rf2 := K3.out.frozen 2; have rf3 := K3.out.frozen 3; have rf4 := K3.out.frozen 4; have rl := K3.out.lt; simp at r0 r1 r2 r3 r4; clear hp hd3 hr3 hi1 hi2)
        have q := ex_box K3.out (.string r.2.op) (.string r.2.nm) (.int .i64 r.2.n) (.slice AL mL cL) (.int .i64 r.2.a)
        have q0 := q.cell 0
        have q1 := q.cell 1
        have q2 := q.cell 2
        have q3 := q.cell 3
        have q4 := q.cell 4
        simp at q0 q1 q2 q3 q4
        have HZ := fin_ex P3.out D3.out (Nat.le_refl _) HG.out.1 HG.out.2.1 X3.out (.string r.2.op) (.string r.2.nm) (.int .i64 r.2.n) (.slice AL mL cL) (.int .i64 r.2.a)
        rw [HRr.out]
        refine bodyPost_ret (v := exV r.2.op r.2.nm r.2.n (.slice AL mL cL) r.2.a) (by simp [results, Tryd.results35, go_sem, q0, q1, q2, q3, q4]) rfl ⟨_, _, _, _, rfl, HZ.1, HZ.2.1, I1.out, I2.out, HZ.2.2⟩
    · have het : (t.text == [33]) = true := by rw [← HTx.out]; exact he
      have hne : (nxt len s).text ≠ [] := by rw [← HT0.out]; intro e; rw [e] at het; cases het
      obtain ⟨r, hr⟩ : ∃ q, q = exF len (f + 1) .part d s := ⟨_, rfl⟩
      have HC : Hid (∀ w, Par B b len M k d s w → Calls Tryd.prog 60 #[.pointer (some ⟨b, 0, none⟩), .string ⟨#[110, 111, 116]⟩] w (RetX B b len M k d r w)) := Lib.hid fun w h => by
        rw [hr]
        simp only [exF]
        rw [← HT0.out, het1, het]
        have := opp_any ihp oNot (HDk.out.2 (by intro e; rw [nxt_nil e] at hne; exact hne rfl)) h hne HF.out
        rw [← HT0.out] at this
        exact this
      have HRr := Lib.hid hr.symm
      clear hr hne het
      go_wp2_with (go_at_call 60; have HX := HC.out _ P2.out; (with_reducible refine HX.mono ?_); clear HX; rintro e w3 ⟨nL, AL, mL, cL, rfl, hp, hd3, hi1, hi2, hr3⟩; have P3 := Lib.hid hp; have D3 := Lib.hid (D2.out.trans hd3); have K3 := Lib.hid (hd3.blk K2.out HG.out.1.symm); have X3 : Hid (ExR (fun q => w.heap.size ≤ q ∧ q < w3.heap.size ∧ q ≠ w.heap.size) nL w3 r.2.l (.slice AL mL cL)) := Lib.hid (hr3.wide (fun q hq => ⟨Nat.le_trans D2.out.size hq.1, hq.2, by have := K2.out.lt; have := hq.1; omega⟩)); have I1 := Lib.hid hi1; have I2 := Lib.hid hi2; have r0 := K3.out.cell 0; have r1 := K3.out.cell 1; have r2 := K3.out.cell 2; have r3 := K3.out.cell 3; have r4 := K3.out.cell 4; have rf0 := K3.out.frozen 0; have rf1 := K3.out.frozen 1; have rf2 := K3.out.frozen 2; have rf3 := K3.out.frozen 3; have rf4 := K3.out.frozen 4; have rl := K3.out.lt; simp at r0 r1 r2 r3 r4; clear hp hd3 hr3 hi1 hi2)
      have q := ex_box K3.out (.string r.2.op) (.string r.2.nm) (.int .i64 r.2.n) (.slice AL mL cL) (.int .i64 r.2.a)
      have q0 := q.cell 0
      have q1 := q.cell 1
      have q2 := q.cell 2
      have q3 := q.cell 3
      have q4 := q.cell 4
      simp at q0 q1 q2 q3 q4
      have HZ := fin_ex P3.out D3.out (Nat.le_refl _) HG.out.1 HG.out.2.1 X3.out (.string r.2.op) (.string r.2.nm) (.int .i64 r.2.n) (.slice AL mL cL) (.int .i64 r.2.a)
      rw [HRr.out]
      refine bodyPost_ret (v := exV r.2.op r.2.nm r.2.n (.slice AL mL cL) r.2.a) (by simp [results, Tryd.results35, go_sem, q0, q1, q2, q3, q4]) rfl ⟨_, _, _, _, rfl, HZ.1, HZ.2.1, I1.out, I2.out, HZ.2.2⟩
  · have het : (t.text == [45]) = true := by rw [← HTx.out]; exact he
    have hne : (nxt len s).text ≠ [] := by rw [← HT0.out]; intro e; rw [e] at het; cases het
    obtain ⟨r, hr⟩ : ∃ q, q = exF len (f + 1) .part d s := ⟨_, rfl⟩
    have HC : Hid (∀ w, Par B b len M k d s w → Calls Tryd.prog 60 #[.pointer (some ⟨b, 0, none⟩), .string ⟨#[110, 101, 103]⟩] w (RetX B b len M k d r w)) := Lib.hid fun w h => by
      rw [hr]
      simp only [exF]
      rw [← HT0.out, het]
      have := opp_any ihp oNeg (HDk.out.2 (by intro e; rw [nxt_nil e] at hne; exact hne rfl)) h hne HF.out
      rw [← HT0.out] at this
      exact this
    have HRr := Lib.hid hr.symm
    clear hr hne het
    go_wp2_with (go_at_call 60; have HX := HC.out _ P2.out; (with_reducible refine HX.mono ?_); clear HX; rintro e w3 ⟨nL, AL, mL, cL, rfl, hp, hd3, hi1, hi2, hr3⟩; have P3 := Lib.hid hp; have D3 := Lib.hid (D2.out.trans hd3); have K3 := Lib.hid (hd3.blk K2.out HG.out.1.symm); have X3 : Hid (ExR (fun q => w.heap.size ≤ q ∧ q < w3.heap.size ∧ q ≠ w.heap.size) nL w3 r.2.l (.slice AL mL cL)) := Lib.hid (hr3.wide (fun q hq => ⟨Nat.le_trans D2.out.size hq.1, hq.2, by have := K2.out.lt; have := hq.1; omega⟩)); have I1 := Lib.hid hi1; have I2 := Lib.hid hi2; have r0 := K3.out.cell 0; have r1 := K3.out.cell 1; have r2 := K3.out.cell 2; have r3 := K3.out.cell 3; have r4 := K3.out.cell 4; have rf0 := K3.out.frozen 0; have rf1 := K3.out.frozen 1; have rf2 := K3.out.frozen 2; have rf3 := K3.out.frozen 3; have rf4 := K3.out.frozen 4; have rl := K3.out.lt; simp at r0 r1 r2 r3 r4; clear hp hd3 hr3 hi1 hi2)
    have q := ex_box K3.out (.string r.2.op) (.string r.2.nm) (.int .i64 r.2.n) (.slice AL mL cL) (.int .i64 r.2.a)
    have q0 := q.cell 0
    have q1 := q.cell 1
    have q2 := q.cell 2
    have q3 := q.cell 3
    have q4 := q.cell 4
    simp at q0 q1 q2 q3 q4
    have HZ := fin_ex P3.out D3.out (Nat.le_refl _) HG.out.1 HG.out.2.1 X3.out (.string r.2.op) (.string r.2.nm) (.int .i64 r.2.n) (.slice AL mL cL) (.int .i64 r.2.a)
    rw [HRr.out]
    refine bodyPost_ret (v := exV r.2.op r.2.nm r.2.n (.slice AL mL cL) r.2.a) (by simp [results, Tryd.results35, go_sem, q0, q1, q2, q3, q4]) rfl ⟨_, _, _, _, rfl, HZ.1, HZ.2.1, I1.out, I2.out, HZ.2.2⟩
end
end Go.Proofs.YteaongdlbleehaaDoor
