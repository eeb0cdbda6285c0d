/- The parse layer: parts with signs between them; an expression. -/
import Derived.Test.YteaongdlbleehaaDoorPsEx2
import Derived.Deep.RegionHeld3
import Derived.Deep.LoopGhost
import Derived.Deep.CutBlock
import Derived.Deep.DeepCutAuto
namespace Go.Proofs.YteaongdlbleehaaDoor
open Go.RowKit
attribute [local go_sem] field_at field_tx field_nn
section
variable {B b len k d n : Nat} {M : Value} {s : PS} {w : World}
/-- What stands at each round of parts. -/
def LpI (w : World) (B b len : Nat) (M : Value) (k d g5 o f : Nat) (R : PS × Ex) (gk : Nat) (wr : World) : Prop :=
  ∃ s x n A m c g, s.ts.length ≤ gk ∧ DOK d s ∧ Par B b len M k d s wr ∧ Pd b w wr ∧ Blk wr w.heap.size 24 #[.string ⟨#[]⟩, .string ⟨#[]⟩, .int .i64 0, .slice none 0 0, .int .i64 0] ∧ Blk wr g5 24 #[.string x.op, .string x.nm, .int .i64 x.n, .slice A m c, .int .i64 x.a] ∧ In64 x.n ∧ In64 x.a ∧ ExR (fun q => w.heap.size ≤ q ∧ q < wr.heap.size ∧ q ≠ w.heap.size ∧ q ≠ g5) n wr x.l (.slice A m c) ∧ 8 * s.ts.length + 1 ≤ g ∧ g ≤ f ∧ exF len g (.loop o x) d s = R
theorem dok_len {s1 : PS} (h : DOK d s) (hl : s1.ts.length ≤ s.ts.length) : DOK d s1 := ⟨h.1, fun q => h.2 (by intro e; rw [e] at hl; exact q (List.length_eq_zero_iff.1 (Nat.le_zero.1 hl)))⟩
theorem exr_two {P : Nat → Prop} {g : Nat} {t : TypeId} {x y : Ex} {L N : Value} (h : Blk w g t #[.string x.op, .string x.nm, .int .i64 x.n, L, .int .i64 x.a, .string y.op, .string y.nm, .int .i64 y.n, N, .int .i64 y.a]) (hg : P g) (h1 : In64 x.n ∧ In64 x.a ∧ In64 y.n ∧ In64 y.a) (hr : ExR P n w x.l L) (hs : ExR P n w y.l N) : ExR P (n + 1) w [x, y] (.slice (some ⟨g, 0, none⟩) 2 2) := by
  refine ⟨some ⟨g, 0, none⟩, 2, rfl, Nat.le_refl _, by simp, fun i z hz => ?_⟩
  match i, hz with
  | 0, hz =>
    simp at hz
    subst hz
    exact ⟨g, 0, L, rfl, hg, ⟨h.cell 0, h.cell 1, h.cell 2, h.cell 3, h.cell 4⟩, h1.1, h1.2.1, hr⟩
  | 1, hz =>
    simp at hz
    subst hz
    exact ⟨g, 0, N, rfl, hg, ⟨h.cell 5, h.cell 6, h.cell 7, h.cell 8, h.cell 9⟩, h1.2.2.1, h1.2.2.2, hs⟩
  | i + 2, hz => simp at hz
set_option maxHeartbeats 12800000 in
set_option maxRecDepth 100000 in
theorem parts_step {f : Nat} (ih : ∀ g, g ≤ f → PXp B b len M k g ∧ PXs B b len M k g) : PXs B b len M k (f + 1) := by
  intro o d s w ho1 ho6 h hdk hf
  obtain ⟨W0, hW0⟩ : ∃ W0, W0 = w.alloc (.cells #[.string ⟨#[]⟩, .string ⟨#[]⟩, .int .i64 0, .slice none 0 0, .int .i64 0] 24) := ⟨_, rfl⟩
  have B0 : Hid (Below w.heap.size w W0) := Lib.hid (by rw [hW0]; exact (Below.refl _ _).alloc (Nat.le_refl _) _)
  have K0 : Hid (Blk W0 w.heap.size 24 #[.string ⟨#[]⟩, .string ⟨#[]⟩, .int .i64 0, .slice none 0 0, .int .i64 0]) := Lib.hid (by rw [hW0]; exact Blk.new w _ _)
  have P0 := Lib.hid (h.below B0.out)
  have D0 := Lib.hid (Pd.of_below B0.out b)
  have HW0 := Lib.hid hW0
  have HG : Hid (b ≠ w.heap.size ∧ B ≤ w.heap.size ∧ b < w.heap.size) := Lib.hid ⟨Nat.ne_of_lt h.lt, Nat.le_trans h.lo (Nat.le_of_lt h.lt), h.lt⟩
  by_cases h6 : o = 6
  · have g6 : ((o : Int) == 6) = true := by rw [h6]; rfl
    obtain ⟨r, hr⟩ : ∃ q, q = exF len (f + 1) (.parts o) d s := ⟨_, rfl⟩
    have HC : Hid (∀ w, Par B b len M k d s w → Calls Tryd.prog 35 #[.pointer (some ⟨b, 0, none⟩)] w (RetX B b len M k d r w)) := Lib.hid fun w h => by
      rw [hr]
      simp only [exF]
      rw [if_pos h6]
      exact (ih f (Nat.le_refl _)).1 d s w h hdk (by omega)
    have HRr := Lib.hid hr.symm
    clear hW0 hr hf h6 h ih hdk
    go_enter Tryd.func16, Tryd.ntmps16
    go_upto_region 1 with fail
    rw [← HW0.out]
    go_wp2_with (go_at_call 35; have HX := HC.out _ P0.out; (with_reducible refine HX.mono ?_); clear HX; rintro e w3 ⟨nL, AL, mL, cL, rfl, hp, hd3, hi1, hi2, hr3⟩; have P3 := Lib.hid hp; have D3 := Lib.hid (D0.out.trans hd3); have K3 := Lib.hid (hd3.blk K0.out HG.out.1.symm); have X3 : Hid (ExR (fun q => w.heap.size ≤ q ∧ q < w3.heap.size ∧ q ≠ w.heap.size) nL w3 r.2.l (.slice AL mL cL)) := Lib.hid (hr3.wide (fun q hq => ⟨Nat.le_trans D0.out.size hq.1, hq.2, by have := K0.out.lt; have := hq.1; omega⟩)); have I1 := Lib.hid hi1; have I2 := Lib.hid hi2; have r0 := K3.out.cell 0; have r1 := K3.out.cell 1; have r2 := K3.out.cell 2; have r3 := K3.out.cell 3; have r4 := K3.out.cell 4; have rf0 := K3.out.frozen 0; have rf1 := K3.out.frozen 1; have rf2 := K3.out.frozen 2; have rf3 := K3.out.frozen 3; have rf4 := K3.out.frozen 4; have rl := K3.out.lt; simp at r0 r1 r2 r3 r4; clear hp hd3 hr3 hi1 hi2)
    have q := ex_box K3.out (.string r.2.op) (.string r.2.nm) (.int .i64 r.2.n) (.slice AL mL cL) (.int .i64 r.2.a)
    have q0 := q.cell 0
    have q1 := q.cell 1
    have q2 := q.cell 2
    have q3 := q.cell 3
    have q4 := q.cell 4
    simp at q0 q1 q2 q3 q4
    have HZ := fin_ex P3.out D3.out (Nat.le_refl _) HG.out.1 HG.out.2.1 X3.out (.string r.2.op) (.string r.2.nm) (.int .i64 r.2.n) (.slice AL mL cL) (.int .i64 r.2.a)
    rw [HRr.out]
    refine bodyPost_ret (v := exV r.2.op r.2.nm r.2.n (.slice AL mL cL) r.2.a) (by simp [results, Tryd.results16, go_sem, q0, q1, q2, q3, q4]) rfl ⟨_, _, _, _, rfl, HZ.1, HZ.2.1, I1.out, I2.out, HZ.2.2⟩
  · have g6 : ((o : Int) == 6) = false := by simp; omega
    have go1 : IntKind.i64.wrap ((o : Int) + 1) = (o : Int) + 1 := IntWalk.i64_in _ (by omega)
    obtain ⟨r, hr⟩ : ∃ q, q = exF len f (.parts (o + 1)) d s := ⟨_, rfl⟩
    have HC : Hid (∀ w, Par B b len M k d s w → Calls Tryd.prog 16 #[.pointer (some ⟨b, 0, none⟩), .int .i64 ((o : Int) + 1)] w (RetX B b len M k d r w)) := Lib.hid fun w h => by
      rw [hr]
      exact (ih f (Nat.le_refl _)).2 (o + 1) d s w (by omega) (by omega) h hdk (by omega)
    have HE : Hid (exF len f (.loop o r.2) d r.1 = exF len (f + 1) (.parts o) d s) := Lib.hid (by
      rw [hr]
      simp only [exF]
      rw [if_neg h6])
    have HLr : Hid (r.1.ts.length ≤ s.ts.length) := Lib.hid (by rw [hr]; exact exF_len _ _ _ _)
    have HIH := Lib.hid ih
    have HDk := Lib.hid hdk
    have HF := Lib.hid hf
    have HO6 : Hid (o ≤ 5) := Lib.hid (by omega)
    clear hW0 hr hf h6 h ih hdk ho6
    obtain ⟨s1, x1⟩ := r
    go_enter Tryd.func16, Tryd.ntmps16
    go_upto_region 1 with fail
    rw [← HW0.out]
    go_upto_block 0 with (go_at_call 16; have HX := HC.out _ P0.out; (with_reducible refine HX.mono ?_); clear HX; rintro e w2 ⟨nL, AL, mL, cL, rfl, hp, hd2, hi1, hi2, hr2⟩; have P2 := Lib.hid hp; have D2 := Lib.hid (D0.out.trans hd2); have K2 := Lib.hid (hd2.blk K0.out HG.out.1.symm); have R2 := Lib.hid (And.intro hi1 (And.intro hi2 hr2)); clear hp hd2 hr2 hi1 hi2)
    obtain ⟨W3, hW3⟩ : ∃ q, q = w2.alloc (.cells #[.string x1.op, .string x1.nm, .int .i64 x1.n, .slice AL mL cL, .int .i64 x1.a] 24) := ⟨_, rfl⟩
    have E3 : Hid (Below w2.heap.size w2 W3) := Lib.hid (by rw [hW3]; exact (Below.refl _ _).alloc (Nat.le_refl _) _)
    have T3 : Hid (Blk W3 w2.heap.size 24 #[.string x1.op, .string x1.nm, .int .i64 x1.n, .slice AL mL cL, .int .i64 x1.a]) := Lib.hid (by rw [hW3]; exact Blk.new w2 _ _)
    have HT : Hid (w.heap.size ≠ w2.heap.size ∧ b ≠ w2.heap.size ∧ w.heap.size ≤ w2.heap.size ∧ B ≤ w2.heap.size) := Lib.hid ⟨Nat.ne_of_lt K2.out.lt, Nat.ne_of_lt P2.out.lt, D2.out.size, Nat.le_trans HG.out.2.1 D2.out.size⟩
    have HST : Hid (LpI w B b len M k d w2.heap.size o f (exF len (f + 1) (.parts o) d s) s1.ts.length W3) := Lib.hid ⟨s1, x1, nL, AL, mL, cL, f, Nat.le_refl _, dok_len HDk.out HLr.out, P2.out.below E3.out, D2.out.then_ E3.out, K2.out.below E3.out K2.out.lt, T3.out, R2.out.1, R2.out.2.1, (R2.out.2.2.below E3.out (fun q hq => hq.2)).wide (fun q hq => ⟨Nat.le_trans D0.out.size hq.1, Nat.lt_of_lt_of_le hq.2 E3.out.size, by have := K0.out.lt; have := hq.1; omega, by have := hq.2; omega⟩), by have := HF.out; have := HO6.out; have : s1.ts.length ≤ s.ts.length := HLr.out; omega, Nat.le_refl _, HE.out⟩
    rw [← hW3]
    clear hW3 E3 T3 R2 K2 P2 D2 HE
    obtain ⟨g5, hg5⟩ : ∃ q, q = w2.heap.size := ⟨_, rfl⟩
    rw [← hg5] at HT HST ⊢
    clear hg5
    go_wp2_with fail
    go_loopg [6] s1.ts.length (fun gk _ wr => LpI w B b len M k d g5 o f (exF len (f + 1) (.parts o) d s) gk wr)
    case atStart => exact HST.out
    case round =>
      obtain ⟨s2, x, n, A, m, c, g, hgk, hdk, hp, hd, hK, hT, hi1, hi2, hx, hg1, hg2, hR⟩ := hrel
      obtain ⟨g, rfl⟩ : ∃ q, g = q + 1 := ⟨g - 1, by omega⟩
      have HGk0 := Lib.hid hgk
      have HDk2 := Lib.hid hdk
      have P1 := Lib.hid hp
      have D1 := Lib.hid hd
      have K1 := Lib.hid hK
      have T1 := Lib.hid hT
      have IX := Lib.hid (And.intro hi1 hi2)
      have X1 := Lib.hid hx
      have HG1 := Lib.hid (And.intro hg1 hg2)
      have HR := Lib.hid hR
      clear hgk hdk hp hd hK hT hi1 hi2 hx hg1 hg2 hR HST
      obtain ⟨t, ht⟩ : ∃ t, t = nxt len s2 := ⟨_, rfl⟩
      have HN := Lib.hid (next_any P1.out)
      rw [← ht] at HN
      have HTk : Hid (∀ w, Par B b len M k d s2 w → Calls Tryd.prog 37 #[.pointer (some ⟨b, 0, none⟩)] w (RetP B b len M k d (tkV t) (takeF s2) w)) := Lib.hid fun w h => by rw [ht]; exact take_any h
      unfold tkV at HN HTk
      have HLv := Lib.hid (level_any t.text)
      obtain ⟨lv, hlv⟩ : ∃ q, q = levL t.text := ⟨_, rfl⟩
      rw [← hlv] at HLv
      have HLv2 := Lib.hid hlv
      have HT0 := Lib.hid ht
      obtain ⟨tx, htx⟩ : ∃ q, q = bA t.text := ⟨_, rfl⟩
      rw [← htx] at HN HTk HLv
      have HTb := Lib.hid htx.symm
      have HAt : Hid (In64 (t.at_ : Int)) := Lib.hid (in64_small (by rw [ht]; have := (nxt_b (len := len) P1.out.hl P1.out.tb).1; omega))
      clear ht hlv htx
      by_cases hlo : lv = o
      · have g0 : ((lv : Int) == (o : Int)) = true := by rw [hlo]; simp
        have hne : (nxt len s2).text ≠ [] := by rw [← HT0.out]; apply lev_pos; rw [← HLv2.out, hlo]; omega
        have hpos := nxt_text_pos hne
        obtain ⟨r2, hr2⟩ : ∃ q, q = exF len g (.parts (o + 1)) d (takeF s2) := ⟨_, rfl⟩
        have HCx : Hid (∀ w, Par B b len M k d (takeF s2) w → Calls Tryd.prog 16 #[.pointer (some ⟨b, 0, none⟩), .int .i64 ((o : Int) + 1)] w (RetX B b len M k d r2 w)) := Lib.hid fun w h => by
          rw [hr2]
          exact (HIH.out g (by have := HG1.out.2; omega)).2 (o + 1) d (takeF s2) w (by omega) (by have := HO6.out; omega) h (dok_len HDk2.out (by rw [take_len]; omega)) (by rw [take_len]; have := HG1.out.1; omega)
        have HL : Hid (exF len (g + 1) (.loop o x) d s2 = if o = 3 then (r2.1, .mk tx ⟨#[]⟩ 0 [x, r2.2] (t.at_ : Int)) else exF len g (.loop o (.mk tx ⟨#[]⟩ 0 [x, r2.2] (t.at_ : Int))) d r2.1) := Lib.hid (by
          rw [hr2]
          simp only [exF]
          rw [← HT0.out, if_pos (by rw [← HLv2.out, hlo]), HTb.out])
        have hl4 : r2.1.ts.length + 1 ≤ s2.ts.length := by rw [hr2]; have := exF_len (len := len) g (.parts (o + 1)) d (takeF s2); rw [take_len] at this; omega
        have H4 : Hid (r2.1.ts.length ≤ gk - 1 ∧ DOK d r2.1) := Lib.hid ⟨by have := HGk0.out; omega, dok_len HDk2.out (by omega)⟩
        have H5 : Hid (8 * r2.1.ts.length + 1 ≤ g ∧ g ≤ f) := Lib.hid ⟨by have := HG1.out.1; omega, by have := HG1.out.2; omega⟩
        have HGk : Hid (gk - 1 < gk) := Lib.hid (by have := HGk0.out; omega)
        clear hr2 hl4 hne hpos hlo HIH HF HDk
        obtain ⟨s4, y⟩ := r2
        go_upto_region 6 with (first
          | (go_at_call 34; have HX := HN.out; (with_reducible refine HX.mono ?_); clear HX; rintro e wa ⟨rfl, hb⟩; have Pa := Lib.hid (P1.out.below hb); have Da := Lib.hid (D1.out.then_ hb); have Ka := Lib.hid (K1.out.below hb K1.out.lt); have Ta := Lib.hid (T1.out.below hb T1.out.lt); have Xa := Lib.hid ((X1.out.below hb (fun q hq => hq.2.1)).wide (P' := fun q => w.heap.size ≤ q ∧ q < wa.heap.size ∧ q ≠ w.heap.size ∧ q ≠ g5) (fun q hq => ⟨hq.1, Nat.lt_of_lt_of_le hq.2.1 hb.size, hq.2.2⟩)); clear hb)
          | (go_at_call 36; (with_reducible refine (HLv.out _).mono ?_); rintro e wz ⟨rfl, rfl⟩)
          | (go_at_call 37; have HX := HTk.out _ Pa.out; (with_reducible refine HX.mono ?_); clear HX; rintro e wb ⟨rfl, hp, hd⟩; have Pb := Lib.hid hp; have Db := Lib.hid (Da.out.trans hd); have Kb := Lib.hid (hd.blk Ka.out HG.out.1.symm); have Tb := Lib.hid (hd.blk Ta.out HT.out.2.1.symm); have Xb := Lib.hid ((Xa.out.pd hd (fun q hq => ⟨hq.2.1, by have := HG.out.2.2; have := hq.1; omega⟩)).wide (P' := fun q => w.heap.size ≤ q ∧ q < wb.heap.size ∧ q ≠ w.heap.size ∧ q ≠ g5) (fun q hq => ⟨hq.1, Nat.lt_of_lt_of_le hq.2.1 hd.size, hq.2.2⟩)); clear hp hd))
        obtain ⟨Wc, hWc⟩ : ∃ q, q = wb.alloc (.cells #[.int .i64 (t.kind : Int), .string tx, .int .i64 (t.n : Int), .int .i64 (t.at_ : Int)] 77) := ⟨_, rfl⟩
        have Ec : Hid (Below wb.heap.size wb Wc) := Lib.hid (by rw [hWc]; exact (Below.refl _ _).alloc (Nat.le_refl _) _)
        have Qc : Hid (Blk Wc wb.heap.size 77 #[.int .i64 (t.kind : Int), .string tx, .int .i64 (t.n : Int), .int .i64 (t.at_ : Int)]) := Lib.hid (by rw [hWc]; exact Blk.new wb _ _)
        have EE : Hid (Below wb.heap.size wb Wc.drew) := Lib.hid Ec.out.drew
        have P3 := Lib.hid (Pb.out.below EE.out)
        have D3 := Lib.hid (Db.out.then_ EE.out)
        have K3 := Lib.hid (Kb.out.below EE.out Kb.out.lt)
        have T3 := Lib.hid (Tb.out.below EE.out Tb.out.lt)
        have Q3 : Hid (Blk Wc.drew wb.heap.size 77 #[.int .i64 (t.kind : Int), .string tx, .int .i64 (t.n : Int), .int .i64 (t.at_ : Int)]) := Lib.hid Qc.out
        have X3 : Hid (ExR (fun q => w.heap.size ≤ q ∧ q < Wc.drew.heap.size ∧ q ≠ w.heap.size ∧ q ≠ g5) n Wc.drew x.l (.slice A m c)) := Lib.hid ((Xb.out.below EE.out (fun q hq => hq.2.1)).wide (fun q hq => ⟨hq.1, Nat.lt_of_lt_of_le hq.2.1 EE.out.size, hq.2.2⟩))
        have HQ : Hid (wb.heap.size ≠ g5 ∧ b ≠ wb.heap.size) := Lib.hid ⟨Nat.ne_of_gt Tb.out.lt, Nat.ne_of_lt Pb.out.lt⟩
        have HS6 : Hid (∀ w', Blk w' wb.heap.size 77 #[.int .i64 (t.kind : Int), .string tx, .int .i64 (t.n : Int), .int .i64 (t.at_ : Int)] → w'.cell? ⟨wb.heap.size, 1, none⟩ = some (.string tx) ∧ w'.cell? ⟨wb.heap.size, 3, none⟩ = some (.int .i64 (t.at_ : Int))) := Lib.hid fun w' h => ⟨h.cell 1, h.cell 3⟩
        have S0 := Lib.hid (HS6.out _ Q3.out)
        rw [← hWc]
        clear hWc Pa Da Ka Ta Xa Pb Db Kb Tb Xb P1 D1 K1 T1 X1 Ec Qc EE HN HTk HLv
        refine wp_region_held_drew (S := fun w' => w'.cell? ⟨wb.heap.size, 1, none⟩ = some (.string tx) ∧ w'.cell? ⟨wb.heap.size, 3, none⟩ = some (.int .i64 (t.at_ : Int))) (by kernel_rfl) S0.out (fun k0 => ?_)
        refine wpAnyH_take (i := 0) (oi := ⟨some 23, _, _, _, _, _⟩) (v := ?_) rfl (by kernel_rfl) (by kernel_rfl) (by kernel_rfl) (fun _ _ _ h => h) (Or.inl ⟨by rfl, ?_⟩) k0 ?_
        rotate_left
        · intro w hSw
          try dsimp only at hSw
          go_simp
          try with_reducible rfl
        try simp only [Act.put, List.setIfInBounds_toArray, List.set_cons_zero, List.set_cons_succ]
        refine wpAnyH_take (i := 1) (oi := ⟨some 24, _, _, _, _, _⟩) (v := ?_) rfl (by kernel_rfl) (by kernel_rfl) (by kernel_rfl) (fun _ _ _ h => h) (Or.inl ⟨by rfl, ?_⟩) k0 ?_
        rotate_left
        · intro w hSw
          try dsimp only at hSw
          go_simp
          try with_reducible rfl
        try simp only [Act.put, List.setIfInBounds_toArray, List.set_cons_zero, List.set_cons_succ]
        refine wpAnyH_take (i := 3) (oi := ⟨some 26, _, _, _, _, _⟩) (v := ?_) rfl (by kernel_rfl) (by kernel_rfl) (by kernel_rfl) (fun _ _ _ h => h) (Or.inl ⟨by rfl, ?_⟩) k0 ?_
        rotate_left
        · intro w hSw
          try dsimp only at hSw
          go_simp
          try with_reducible rfl
        try simp only [Act.put, List.setIfInBounds_toArray, List.set_cons_zero, List.set_cons_succ]
        refine wpAnyH_take (i := 4) (oi := ⟨some 27, _, _, _, _, _⟩) (v := ?_) rfl (by kernel_rfl) (by kernel_rfl) (by kernel_rfl) (fun _ _ _ h => h) (Or.inl ⟨by rfl, ?_⟩) k0 ?_
        rotate_left
        · intro w hSw
          try dsimp only at hSw
          go_simp
          try with_reducible rfl
        try simp only [Act.put, List.setIfInBounds_toArray, List.set_cons_zero, List.set_cons_succ]
        refine wpAnyH_take (i := 5) (oi := ⟨some 28, _, _, _, _, _⟩) (v := ?_) rfl (by kernel_rfl) (by kernel_rfl) (by kernel_rfl) (fun _ _ _ h => h) (Or.inl ⟨by rfl, ?_⟩) k0 ?_
        rotate_left
        · intro w hSw
          try dsimp only at hSw
          go_simp
          try with_reducible rfl
        try simp only [Act.put, List.setIfInBounds_toArray, List.set_cons_zero, List.set_cons_succ]
        refine wpAnyH_take (i := 8) (oi := ⟨some 31, _, _, _, _, _⟩) (v := ?_) rfl (by kernel_rfl) (by kernel_rfl) (by kernel_rfl) (fun _ _ _ h => h) (Or.inl ⟨by rfl, ?_⟩) k0 ?_
        rotate_left
        · intro w hSw
          try dsimp only at hSw
          go_simp
          try with_reducible rfl
        try simp only [Act.put, List.setIfInBounds_toArray, List.set_cons_zero, List.set_cons_succ]
        refine wpAnyH_take (i := 9) (oi := ⟨some 32, _, _, _, _, _⟩) (v := ?_) rfl (by kernel_rfl) (by kernel_rfl) (by kernel_rfl) (fun _ _ _ h => h) (Or.inl ⟨by rfl, ?_⟩) k0 ?_
        rotate_left
        · intro w hSw
          try dsimp only at hSw
          go_simp
          try with_reducible rfl
        try simp only [Act.put, List.setIfInBounds_toArray, List.set_cons_zero, List.set_cons_succ]
        refine wpAnyH_ready (rs := [2, 6]) (by kernel_rfl) (by simp) ?_
        refine (AllReadyH.cons (o := ⟨some 25, _, _, _, _, _⟩) rfl (fun K' hK => ?_) (AllReadyH.cons (o := ⟨some 29, _, _, _, _, _⟩) rfl (fun K' hK => ?_) AllReadyH.nil))
        · have tf0 := T3.out.cell 0
          have tf1 := T3.out.cell 1
          have tf2 := T3.out.cell 2
          have tf3 := T3.out.cell 3
          have tf4 := T3.out.cell 4
          simp at tf0 tf1 tf2 tf3 tf4
          go_simp
          refine hK.out _ _ S0.out (fun h1 => ?_)
          clear hK K'
          try simp only [Act.put, List.setIfInBounds_toArray, List.set_cons_zero, List.set_cons_succ]
          clear tf0 tf1 tf2 tf3 tf4
          refine wpAnyH_ready (rs := [6]) (by kernel_rfl) (by simp) ?_
          refine (AllReadyH.cons (o := ⟨some 29, _, _, _, _, _⟩) rfl (fun K' hK => ?_) AllReadyH.nil)
          go_simp
          refine (HCx.out _ P3.out).mono ?_
          rintro e w4 ⟨nL, AL, mL, cL, rfl, hp, hd4, hi1, hi2, hr4⟩
          have P4 := Lib.hid hp
          have D4 := Lib.hid (D3.out.trans hd4)
          have K4 := Lib.hid (hd4.blk K3.out HG.out.1.symm)
          have T4 := Lib.hid (hd4.blk T3.out HT.out.2.1.symm)
          have Q4 := Lib.hid (hd4.blk Q3.out HQ.out.2.symm)
          have S4 := Lib.hid (HS6.out _ Q4.out)
          have I1 := Lib.hid hi1
          have I2 := Lib.hid hi2
          have X4 : Hid (ExR (fun q => w.heap.size ≤ q ∧ q < w4.heap.size ∧ q ≠ w.heap.size ∧ q ≠ g5) n w4 x.l (.slice A m c)) := Lib.hid ((X3.out.pd hd4 (fun q hq => ⟨hq.2.1, by have := HG.out.2.2; have := hq.1; omega⟩)).wide (fun q hq => ⟨hq.1, Nat.lt_of_lt_of_le hq.2.1 hd4.size, hq.2.2⟩))
          have Y4 : Hid (ExR (fun q => w.heap.size ≤ q ∧ q < w4.heap.size ∧ q ≠ w.heap.size ∧ q ≠ g5) nL w4 y.l (.slice AL mL cL)) := Lib.hid (hr4.wide (fun q hq => ⟨Nat.le_trans D3.out.size hq.1, hq.2, by have := K3.out.lt; have := hq.1; omega, by have := T3.out.lt; have := hq.1; omega⟩))
          clear hp hd4 hi1 hi2 hr4
          go_wp2_with fail
          refine hK.out _ _ S4.out (fun h2 => ?_)
          clear hK K'
          try simp only [Act.put, List.setIfInBounds_toArray, List.set_cons_zero, List.set_cons_succ]
          refine wpAnyH_ready (rs := [7]) (by kernel_rfl) (by simp) ?_
          refine (AllReadyH.cons (o := ⟨some 30, _, _, _, _, _⟩) rfl (fun K' hK => ?_) AllReadyH.nil)
          obtain ⟨w5, hw5⟩ : ∃ q, q = w4.alloc (.cells #[.string x.op, .string x.nm, .int .i64 x.n, .slice A m c, .int .i64 x.a, .string y.op, .string y.nm, .int .i64 y.n, .slice AL mL cL, .int .i64 y.a] 24) := ⟨_, rfl⟩
          have B5 : Hid (Below w4.heap.size w4 w5) := Lib.hid (by rw [hw5]; exact (Below.refl _ _).alloc (Nat.le_refl _) _)
          have N5 : Hid (Blk w5 w4.heap.size 24 #[.string x.op, .string x.nm, .int .i64 x.n, .slice A m c, .int .i64 x.a, .string y.op, .string y.nm, .int .i64 y.n, .slice AL mL cL, .int .i64 y.a]) := Lib.hid (by rw [hw5]; exact Blk.new w4 _ _)
          have P5 := Lib.hid (P4.out.below B5.out)
          have D5 := Lib.hid (D4.out.then_ B5.out)
          have K5 := Lib.hid (K4.out.below B5.out K4.out.lt)
          have T5 := Lib.hid (T4.out.below B5.out T4.out.lt)
          have Q5 := Lib.hid (Q4.out.below B5.out Q4.out.lt)
          have S5 := Lib.hid (HS6.out _ Q5.out)
          have X5 : Hid (ExR (fun q => w.heap.size ≤ q ∧ q < w5.heap.size ∧ q ≠ w.heap.size ∧ q ≠ g5) (n + nL + 1) w5 [x, y] (.slice (some ⟨w4.heap.size, 0, none⟩) 2 2)) := Lib.hid (exr_two N5.out ⟨by have := K4.out.lt; omega, N5.out.lt, by have := K4.out.lt; omega, by have := T4.out.lt; omega⟩ ⟨IX.out.1, IX.out.2, I1.out, I2.out⟩ (((X4.out.below B5.out (fun q hq => hq.2.1)).wide (fun q hq => ⟨hq.1, Nat.lt_of_lt_of_le hq.2.1 B5.out.size, hq.2.2⟩)).le (Nat.le_add_right _ _)) (((Y4.out.below B5.out (fun q hq => hq.2.1)).wide (fun q hq => ⟨hq.1, Nat.lt_of_lt_of_le hq.2.1 B5.out.size, hq.2.2⟩)).le (Nat.le_add_left _ _)))
          go_simp
          rw [← hw5]
          clear hw5
          refine hK.out _ _ S5.out (fun h7 => ?_)
          clear hK K'
          try simp only [Act.put, List.setIfInBounds_toArray, List.set_cons_zero, List.set_cons_succ]
          refine wpAnyH_take (i := 10) (oi := ⟨some 33, _, _, _, _, _⟩) (v := ?_) rfl (by kernel_rfl) (by kernel_rfl) (by kernel_rfl) (fun _ _ _ h => h) (Or.inl ⟨by rfl, ?_⟩) h7 ?_
          rotate_left
          · intro w hSw
            try dsimp only at hSw
            go_simp
            try with_reducible rfl
          try simp only [Act.put, List.setIfInBounds_toArray, List.set_cons_zero, List.set_cons_succ]
          refine wpAnyH_ready (rs := [11]) (by kernel_rfl) (by simp) ?_
          refine (AllReadyH.cons (o := ⟨none, _, _, _, _, _⟩) rfl (fun K' hK => ?_) AllReadyH.nil)
          have t0 := T5.out.cell 0
          have t1 := T5.out.cell 1
          have t2 := T5.out.cell 2
          have t3 := T5.out.cell 3
          have t4 := T5.out.cell 4
          have f0 := T5.out.frozen 0
          have f1 := T5.out.frozen 1
          have f2 := T5.out.frozen 2
          have f3 := T5.out.frozen 3
          have f4 := T5.out.frozen 4
          have fl := T5.out.lt
          simp at t0 t1 t2 t3 t4
          have S6 := Lib.hid (HS6.out _ (((((Q5.out.far (p := ⟨g5, 0, none⟩) HQ.out.1 (.string tx)).far (p := ⟨g5, 1, none⟩) HQ.out.1 (.string ⟨#[]⟩)).far (p := ⟨g5, 2, none⟩) HQ.out.1 (.int .i64 0)).far (p := ⟨g5, 3, none⟩) HQ.out.1 (.slice (some ⟨w4.heap.size, 0, none⟩) 2 2)).far (p := ⟨g5, 4, none⟩) HQ.out.1 (.int .i64 (t.at_ : Int))))
          go_simp
          refine hK.out _ _ S6.out (fun h8 => ?_)
          clear hK K'
          try simp only [Act.put, List.setIfInBounds_toArray, List.set_cons_zero, List.set_cons_succ]
          clear t0 t1 t2 t3 t4 f0 f1 f2 f3 f4 fl
          refine wpAnyH_done (by kernel_rfl) ?_ _
          have FK := five_kept (w := w5) (g := g5) (.string tx) (.string ⟨#[]⟩) (.int .i64 0) (.slice (some ⟨w4.heap.size, 0, none⟩) 2 2) (.int .i64 (t.at_ : Int))
          have P6 := Lib.hid (((((P5.out.far HT.out.2.1 HT.out.2.2.2 (.string tx) (p := ⟨g5, 0, none⟩)).far HT.out.2.1 HT.out.2.2.2 (.string ⟨#[]⟩) (p := ⟨g5, 1, none⟩)).far HT.out.2.1 HT.out.2.2.2 (.int .i64 0) (p := ⟨g5, 2, none⟩)).far HT.out.2.1 HT.out.2.2.2 (.slice (some ⟨w4.heap.size, 0, none⟩) 2 2) (p := ⟨g5, 3, none⟩)).far HT.out.2.1 HT.out.2.2.2 (.int .i64 (t.at_ : Int)) (p := ⟨g5, 4, none⟩))
          have D6 := Lib.hid (((((D5.out.fresh (p := ⟨g5, 0, none⟩) HT.out.2.2.1 (.string tx)).fresh (p := ⟨g5, 1, none⟩) HT.out.2.2.1 (.string ⟨#[]⟩)).fresh (p := ⟨g5, 2, none⟩) HT.out.2.2.1 (.int .i64 0)).fresh (p := ⟨g5, 3, none⟩) HT.out.2.2.1 (.slice (some ⟨w4.heap.size, 0, none⟩) 2 2)).fresh (p := ⟨g5, 4, none⟩) HT.out.2.2.1 (.int .i64 (t.at_ : Int)))
          have K6 : Hid (Blk (((((w5.setCell ⟨g5, 0, none⟩ (.string tx)).setCell ⟨g5, 1, none⟩ (.string ⟨#[]⟩)).setCell ⟨g5, 2, none⟩ (.int .i64 0)).setCell ⟨g5, 3, none⟩ (.slice (some ⟨w4.heap.size, 0, none⟩) 2 2)).setCell ⟨g5, 4, none⟩ (.int .i64 (t.at_ : Int))) w.heap.size 24 #[.string ⟨#[]⟩, .string ⟨#[]⟩, .int .i64 0, .slice none 0 0, .int .i64 0]) := Lib.hid ((FK.1 _ HT.out.1).trans K5.out)
          have T6 : Hid (Blk (((((w5.setCell ⟨g5, 0, none⟩ (.string tx)).setCell ⟨g5, 1, none⟩ (.string ⟨#[]⟩)).setCell ⟨g5, 2, none⟩ (.int .i64 0)).setCell ⟨g5, 3, none⟩ (.slice (some ⟨w4.heap.size, 0, none⟩) 2 2)).setCell ⟨g5, 4, none⟩ (.int .i64 (t.at_ : Int))) g5 24 #[.string tx, .string ⟨#[]⟩, .int .i64 0, .slice (some ⟨w4.heap.size, 0, none⟩) 2 2, .int .i64 (t.at_ : Int)]) := Lib.hid (((((T5.out.set_ 0 _).set_ 1 _).set_ 2 _).set_ 3 _).set_ 4 _)
          have X6 : Hid (ExR (fun q => w.heap.size ≤ q ∧ q < (((((w5.setCell ⟨g5, 0, none⟩ (.string tx)).setCell ⟨g5, 1, none⟩ (.string ⟨#[]⟩)).setCell ⟨g5, 2, none⟩ (.int .i64 0)).setCell ⟨g5, 3, none⟩ (.slice (some ⟨w4.heap.size, 0, none⟩) 2 2)).setCell ⟨g5, 4, none⟩ (.int .i64 (t.at_ : Int))).heap.size ∧ q ≠ w.heap.size ∧ q ≠ g5) (n + nL + 1) (((((w5.setCell ⟨g5, 0, none⟩ (.string tx)).setCell ⟨g5, 1, none⟩ (.string ⟨#[]⟩)).setCell ⟨g5, 2, none⟩ (.int .i64 0)).setCell ⟨g5, 3, none⟩ (.slice (some ⟨w4.heap.size, 0, none⟩) 2 2)).setCell ⟨g5, 4, none⟩ (.int .i64 (t.at_ : Int))) [x, y] (.slice (some ⟨w4.heap.size, 0, none⟩) 2 2)) := Lib.hid ((X5.out.kept (fun q hq => FK.1 q hq.2.2.2)).wide (fun q hq => ⟨hq.1, by rw [FK.2]; exact hq.2.1, hq.2.2⟩))
          clear FK
          obtain ⟨w6, hw6⟩ : ∃ q, ((((w5.setCell ⟨g5, 0, none⟩ (.string tx)).setCell ⟨g5, 1, none⟩ (.string ⟨#[]⟩)).setCell ⟨g5, 2, none⟩ (.int .i64 0)).setCell ⟨g5, 3, none⟩ (.slice (some ⟨w4.heap.size, 0, none⟩) 2 2)).setCell ⟨g5, 4, none⟩ (.int .i64 (t.at_ : Int)) = q := ⟨_, rfl⟩
          rw [hw6] at P6 D6 K6 T6 X6 ⊢
          clear hw6
          by_cases ho3 : o = 3
          · have gi : ((o : Int) == 3) = true := by rw [ho3]; rfl
            have HE3 : Hid (exF len (f + 1) (.parts o) d s = (s4, .mk tx ⟨#[]⟩ 0 [x, y] (t.at_ : Int))) := Lib.hid (by rw [← HR.out, HL.out, if_pos ho3])
            have X7 : Hid (ExR (fun q => w.heap.size ≤ q ∧ q < w6.heap.size ∧ q ≠ w.heap.size) (n + nL + 1) w6 [x, y] (.slice (some ⟨w4.heap.size, 0, none⟩) 2 2)) := Lib.hid (X6.out.wide (fun q hq => ⟨hq.1, hq.2.1, hq.2.2.1⟩))
            clear ho3
            have t0 := T6.out.cell 0
            have t1 := T6.out.cell 1
            have t2 := T6.out.cell 2
            have t3 := T6.out.cell 3
            have t4 := T6.out.cell 4
            simp at t0 t1 t2 t3 t4
            have r0 := K6.out.cell 0
            have r1 := K6.out.cell 1
            have r2 := K6.out.cell 2
            have r3 := K6.out.cell 3
            have r4 := K6.out.cell 4
            have rf0 := K6.out.frozen 0
            have rf1 := K6.out.frozen 1
            have rf2 := K6.out.frozen 2
            have rf3 := K6.out.frozen 3
            have rf4 := K6.out.frozen 4
            have rl := K6.out.lt
            simp at r0 r1 r2 r3 r4
            go_wp2
            have q := ex_box K6.out (.string tx) (.string ⟨#[]⟩) (.int .i64 0) (.slice (some ⟨w4.heap.size, 0, none⟩) 2 2) (.int .i64 (t.at_ : Int))
            have q0 := q.cell 0
            have q1 := q.cell 1
            have q2 := q.cell 2
            have q3 := q.cell 3
            have q4 := q.cell 4
            simp at q0 q1 q2 q3 q4
            have HZ := fin_ex P6.out D6.out (Nat.le_refl _) HG.out.1 HG.out.2.1 X7.out (.string tx) (.string ⟨#[]⟩) (.int .i64 0) (.slice (some ⟨w4.heap.size, 0, none⟩) 2 2) (.int .i64 (t.at_ : Int))
            rw [HE3.out]
            refine bodyPost_ret (v := exV tx ⟨#[]⟩ 0 (.slice (some ⟨w4.heap.size, 0, none⟩) 2 2) (t.at_ : Int)) (by simp [results, Tryd.results16, go_sem, q0, q1, q2, q3, q4]) rfl ⟨_, _, _, _, rfl, HZ.1, HZ.2.1, in64_zero, HAt.out, HZ.2.2⟩
          · have gi : ((o : Int) == 3) = false := by simp; omega
            have HE3 : Hid (exF len g (.loop o (.mk tx ⟨#[]⟩ 0 [x, y] (t.at_ : Int))) d s4 = exF len (f + 1) (.parts o) d s) := Lib.hid (by rw [← HR.out, HL.out, if_neg ho3])
            clear ho3
            go_wp2_with fail
            go_roundg (gk - 1)
            case rel => exact ⟨s4, .mk tx ⟨#[]⟩ 0 [x, y] (t.at_ : Int), _, _, _, _, g, H4.out.1, H4.out.2, P6.out, D6.out, K6.out, T6.out, in64_zero, HAt.out, X6.out, H5.out.1, H5.out.2, HE3.out⟩
            case measure => have := HGk.out; omega
        · go_simp
          refine (HCx.out _ P3.out).mono ?_
          rintro e w4 ⟨nL, AL, mL, cL, rfl, hp, hd4, hi1, hi2, hr4⟩
          have P4 := Lib.hid hp
          have D4 := Lib.hid (D3.out.trans hd4)
          have K4 := Lib.hid (hd4.blk K3.out HG.out.1.symm)
          have T4 := Lib.hid (hd4.blk T3.out HT.out.2.1.symm)
          have Q4 := Lib.hid (hd4.blk Q3.out HQ.out.2.symm)
          have S4 := Lib.hid (HS6.out _ Q4.out)
          have I1 := Lib.hid hi1
          have I2 := Lib.hid hi2
          have X4 : Hid (ExR (fun q => w.heap.size ≤ q ∧ q < w4.heap.size ∧ q ≠ w.heap.size ∧ q ≠ g5) n w4 x.l (.slice A m c)) := Lib.hid ((X3.out.pd hd4 (fun q hq => ⟨hq.2.1, by have := HG.out.2.2; have := hq.1; omega⟩)).wide (fun q hq => ⟨hq.1, Nat.lt_of_lt_of_le hq.2.1 hd4.size, hq.2.2⟩))
          have Y4 : Hid (ExR (fun q => w.heap.size ≤ q ∧ q < w4.heap.size ∧ q ≠ w.heap.size ∧ q ≠ g5) nL w4 y.l (.slice AL mL cL)) := Lib.hid (hr4.wide (fun q hq => ⟨Nat.le_trans D3.out.size hq.1, hq.2, by have := K3.out.lt; have := hq.1; omega, by have := T3.out.lt; have := hq.1; omega⟩))
          clear hp hd4 hi1 hi2 hr4
          go_wp2_with fail
          refine hK.out _ _ S4.out (fun h1 => ?_)
          clear hK K'
          try simp only [Act.put, List.setIfInBounds_toArray, List.set_cons_zero, List.set_cons_succ]
          refine wpAnyH_ready (rs := [2]) (by kernel_rfl) (by simp) ?_
          refine (AllReadyH.cons (o := ⟨some 25, _, _, _, _, _⟩) rfl (fun K' hK => ?_) AllReadyH.nil)
          have tf0 := T4.out.cell 0
          have tf1 := T4.out.cell 1
          have tf2 := T4.out.cell 2
          have tf3 := T4.out.cell 3
          have tf4 := T4.out.cell 4
          simp at tf0 tf1 tf2 tf3 tf4
          go_simp
          refine hK.out _ _ S4.out (fun h2 => ?_)
          clear hK K'
          try simp only [Act.put, List.setIfInBounds_toArray, List.set_cons_zero, List.set_cons_succ]
          clear tf0 tf1 tf2 tf3 tf4
          refine wpAnyH_ready (rs := [7]) (by kernel_rfl) (by simp) ?_
          refine (AllReadyH.cons (o := ⟨some 30, _, _, _, _, _⟩) rfl (fun K' hK => ?_) AllReadyH.nil)
          obtain ⟨w5, hw5⟩ : ∃ q, q = w4.alloc (.cells #[.string x.op, .string x.nm, .int .i64 x.n, .slice A m c, .int .i64 x.a, .string y.op, .string y.nm, .int .i64 y.n, .slice AL mL cL, .int .i64 y.a] 24) := ⟨_, rfl⟩
          have B5 : Hid (Below w4.heap.size w4 w5) := Lib.hid (by rw [hw5]; exact (Below.refl _ _).alloc (Nat.le_refl _) _)
          have N5 : Hid (Blk w5 w4.heap.size 24 #[.string x.op, .string x.nm, .int .i64 x.n, .slice A m c, .int .i64 x.a, .string y.op, .string y.nm, .int .i64 y.n, .slice AL mL cL, .int .i64 y.a]) := Lib.hid (by rw [hw5]; exact Blk.new w4 _ _)
          have P5 := Lib.hid (P4.out.below B5.out)
          have D5 := Lib.hid (D4.out.then_ B5.out)
          have K5 := Lib.hid (K4.out.below B5.out K4.out.lt)
          have T5 := Lib.hid (T4.out.below B5.out T4.out.lt)
          have Q5 := Lib.hid (Q4.out.below B5.out Q4.out.lt)
          have S5 := Lib.hid (HS6.out _ Q5.out)
          have X5 : Hid (ExR (fun q => w.heap.size ≤ q ∧ q < w5.heap.size ∧ q ≠ w.heap.size ∧ q ≠ g5) (n + nL + 1) w5 [x, y] (.slice (some ⟨w4.heap.size, 0, none⟩) 2 2)) := Lib.hid (exr_two N5.out ⟨by have := K4.out.lt; omega, N5.out.lt, by have := K4.out.lt; omega, by have := T4.out.lt; omega⟩ ⟨IX.out.1, IX.out.2, I1.out, I2.out⟩ (((X4.out.below B5.out (fun q hq => hq.2.1)).wide (fun q hq => ⟨hq.1, Nat.lt_of_lt_of_le hq.2.1 B5.out.size, hq.2.2⟩)).le (Nat.le_add_right _ _)) (((Y4.out.below B5.out (fun q hq => hq.2.1)).wide (fun q hq => ⟨hq.1, Nat.lt_of_lt_of_le hq.2.1 B5.out.size, hq.2.2⟩)).le (Nat.le_add_left _ _)))
          go_simp
          rw [← hw5]
          clear hw5
          refine hK.out _ _ S5.out (fun h7 => ?_)
          clear hK K'
          try simp only [Act.put, List.setIfInBounds_toArray, List.set_cons_zero, List.set_cons_succ]
          refine wpAnyH_take (i := 10) (oi := ⟨some 33, _, _, _, _, _⟩) (v := ?_) rfl (by kernel_rfl) (by kernel_rfl) (by kernel_rfl) (fun _ _ _ h => h) (Or.inl ⟨by rfl, ?_⟩) h7 ?_
          rotate_left
          · intro w hSw
            try dsimp only at hSw
            go_simp
            try with_reducible rfl
          try simp only [Act.put, List.setIfInBounds_toArray, List.set_cons_zero, List.set_cons_succ]
          refine wpAnyH_ready (rs := [11]) (by kernel_rfl) (by simp) ?_
          refine (AllReadyH.cons (o := ⟨none, _, _, _, _, _⟩) rfl (fun K' hK => ?_) AllReadyH.nil)
          have t0 := T5.out.cell 0
          have t1 := T5.out.cell 1
          have t2 := T5.out.cell 2
          have t3 := T5.out.cell 3
          have t4 := T5.out.cell 4
          have f0 := T5.out.frozen 0
          have f1 := T5.out.frozen 1
          have f2 := T5.out.frozen 2
          have f3 := T5.out.frozen 3
          have f4 := T5.out.frozen 4
          have fl := T5.out.lt
          simp at t0 t1 t2 t3 t4
          have S6 := Lib.hid (HS6.out _ (((((Q5.out.far (p := ⟨g5, 0, none⟩) HQ.out.1 (.string tx)).far (p := ⟨g5, 1, none⟩) HQ.out.1 (.string ⟨#[]⟩)).far (p := ⟨g5, 2, none⟩) HQ.out.1 (.int .i64 0)).far (p := ⟨g5, 3, none⟩) HQ.out.1 (.slice (some ⟨w4.heap.size, 0, none⟩) 2 2)).far (p := ⟨g5, 4, none⟩) HQ.out.1 (.int .i64 (t.at_ : Int))))
          go_simp
          refine hK.out _ _ S6.out (fun h8 => ?_)
          clear hK K'
          try simp only [Act.put, List.setIfInBounds_toArray, List.set_cons_zero, List.set_cons_succ]
          clear t0 t1 t2 t3 t4 f0 f1 f2 f3 f4 fl
          refine wpAnyH_done (by kernel_rfl) ?_ _
          have FK := five_kept (w := w5) (g := g5) (.string tx) (.string ⟨#[]⟩) (.int .i64 0) (.slice (some ⟨w4.heap.size, 0, none⟩) 2 2) (.int .i64 (t.at_ : Int))
          have P6 := Lib.hid (((((P5.out.far HT.out.2.1 HT.out.2.2.2 (.string tx) (p := ⟨g5, 0, none⟩)).far HT.out.2.1 HT.out.2.2.2 (.string ⟨#[]⟩) (p := ⟨g5, 1, none⟩)).far HT.out.2.1 HT.out.2.2.2 (.int .i64 0) (p := ⟨g5, 2, none⟩)).far HT.out.2.1 HT.out.2.2.2 (.slice (some ⟨w4.heap.size, 0, none⟩) 2 2) (p := ⟨g5, 3, none⟩)).far HT.out.2.1 HT.out.2.2.2 (.int .i64 (t.at_ : Int)) (p := ⟨g5, 4, none⟩))
          have D6 := Lib.hid (((((D5.out.fresh (p := ⟨g5, 0, none⟩) HT.out.2.2.1 (.string tx)).fresh (p := ⟨g5, 1, none⟩) HT.out.2.2.1 (.string ⟨#[]⟩)).fresh (p := ⟨g5, 2, none⟩) HT.out.2.2.1 (.int .i64 0)).fresh (p := ⟨g5, 3, none⟩) HT.out.2.2.1 (.slice (some ⟨w4.heap.size, 0, none⟩) 2 2)).fresh (p := ⟨g5, 4, none⟩) HT.out.2.2.1 (.int .i64 (t.at_ : Int)))
          have K6 : Hid (Blk (((((w5.setCell ⟨g5, 0, none⟩ (.string tx)).setCell ⟨g5, 1, none⟩ (.string ⟨#[]⟩)).setCell ⟨g5, 2, none⟩ (.int .i64 0)).setCell ⟨g5, 3, none⟩ (.slice (some ⟨w4.heap.size, 0, none⟩) 2 2)).setCell ⟨g5, 4, none⟩ (.int .i64 (t.at_ : Int))) w.heap.size 24 #[.string ⟨#[]⟩, .string ⟨#[]⟩, .int .i64 0, .slice none 0 0, .int .i64 0]) := Lib.hid ((FK.1 _ HT.out.1).trans K5.out)
          have T6 : Hid (Blk (((((w5.setCell ⟨g5, 0, none⟩ (.string tx)).setCell ⟨g5, 1, none⟩ (.string ⟨#[]⟩)).setCell ⟨g5, 2, none⟩ (.int .i64 0)).setCell ⟨g5, 3, none⟩ (.slice (some ⟨w4.heap.size, 0, none⟩) 2 2)).setCell ⟨g5, 4, none⟩ (.int .i64 (t.at_ : Int))) g5 24 #[.string tx, .string ⟨#[]⟩, .int .i64 0, .slice (some ⟨w4.heap.size, 0, none⟩) 2 2, .int .i64 (t.at_ : Int)]) := Lib.hid (((((T5.out.set_ 0 _).set_ 1 _).set_ 2 _).set_ 3 _).set_ 4 _)
          have X6 : Hid (ExR (fun q => w.heap.size ≤ q ∧ q < (((((w5.setCell ⟨g5, 0, none⟩ (.string tx)).setCell ⟨g5, 1, none⟩ (.string ⟨#[]⟩)).setCell ⟨g5, 2, none⟩ (.int .i64 0)).setCell ⟨g5, 3, none⟩ (.slice (some ⟨w4.heap.size, 0, none⟩) 2 2)).setCell ⟨g5, 4, none⟩ (.int .i64 (t.at_ : Int))).heap.size ∧ q ≠ w.heap.size ∧ q ≠ g5) (n + nL + 1) (((((w5.setCell ⟨g5, 0, none⟩ (.string tx)).setCell ⟨g5, 1, none⟩ (.string ⟨#[]⟩)).setCell ⟨g5, 2, none⟩ (.int .i64 0)).setCell ⟨g5, 3, none⟩ (.slice (some ⟨w4.heap.size, 0, none⟩) 2 2)).setCell ⟨g5, 4, none⟩ (.int .i64 (t.at_ : Int))) [x, y] (.slice (some ⟨w4.heap.size, 0, none⟩) 2 2)) := Lib.hid ((X5.out.kept (fun q hq => FK.1 q hq.2.2.2)).wide (fun q hq => ⟨hq.1, by rw [FK.2]; exact hq.2.1, hq.2.2⟩))
          clear FK
          obtain ⟨w6, hw6⟩ : ∃ q, ((((w5.setCell ⟨g5, 0, none⟩ (.string tx)).setCell ⟨g5, 1, none⟩ (.string ⟨#[]⟩)).setCell ⟨g5, 2, none⟩ (.int .i64 0)).setCell ⟨g5, 3, none⟩ (.slice (some ⟨w4.heap.size, 0, none⟩) 2 2)).setCell ⟨g5, 4, none⟩ (.int .i64 (t.at_ : Int)) = q := ⟨_, rfl⟩
          rw [hw6] at P6 D6 K6 T6 X6 ⊢
          clear hw6
          by_cases ho3 : o = 3
          · have gi : ((o : Int) == 3) = true := by rw [ho3]; rfl
            have HE3 : Hid (exF len (f + 1) (.parts o) d s = (s4, .mk tx ⟨#[]⟩ 0 [x, y] (t.at_ : Int))) := Lib.hid (by rw [← HR.out, HL.out, if_pos ho3])
            have X7 : Hid (ExR (fun q => w.heap.size ≤ q ∧ q < w6.heap.size ∧ q ≠ w.heap.size) (n + nL + 1) w6 [x, y] (.slice (some ⟨w4.heap.size, 0, none⟩) 2 2)) := Lib.hid (X6.out.wide (fun q hq => ⟨hq.1, hq.2.1, hq.2.2.1⟩))
            clear ho3
            have t0 := T6.out.cell 0
            have t1 := T6.out.cell 1
            have t2 := T6.out.cell 2
            have t3 := T6.out.cell 3
            have t4 := T6.out.cell 4
            simp at t0 t1 t2 t3 t4
            have r0 := K6.out.cell 0
            have r1 := K6.out.cell 1
            have r2 := K6.out.cell 2
            have r3 := K6.out.cell 3
            have r4 := K6.out.cell 4
            have rf0 := K6.out.frozen 0
            have rf1 := K6.out.frozen 1
            have rf2 := K6.out.frozen 2
            have rf3 := K6.out.frozen 3
            have rf4 := K6.out.frozen 4
            have rl := K6.out.lt
            simp at r0 r1 r2 r3 r4
            go_wp2
            have q := ex_box K6.out (.string tx) (.string ⟨#[]⟩) (.int .i64 0) (.slice (some ⟨w4.heap.size, 0, none⟩) 2 2) (.int .i64 (t.at_ : Int))
            have q0 := q.cell 0
            have q1 := q.cell 1
            have q2 := q.cell 2
            have q3 := q.cell 3
            have q4 := q.cell 4
            simp at q0 q1 q2 q3 q4
            have HZ := fin_ex P6.out D6.out (Nat.le_refl _) HG.out.1 HG.out.2.1 X7.out (.string tx) (.string ⟨#[]⟩) (.int .i64 0) (.slice (some ⟨w4.heap.size, 0, none⟩) 2 2) (.int .i64 (t.at_ : Int))
            rw [HE3.out]
            refine bodyPost_ret (v := exV tx ⟨#[]⟩ 0 (.slice (some ⟨w4.heap.size, 0, none⟩) 2 2) (t.at_ : Int)) (by simp [results, Tryd.results16, go_sem, q0, q1, q2, q3, q4]) rfl ⟨_, _, _, _, rfl, HZ.1, HZ.2.1, in64_zero, HAt.out, HZ.2.2⟩
          · have gi : ((o : Int) == 3) = false := by simp; omega
            have HE3 : Hid (exF len g (.loop o (.mk tx ⟨#[]⟩ 0 [x, y] (t.at_ : Int))) d s4 = exF len (f + 1) (.parts o) d s) := Lib.hid (by rw [← HR.out, HL.out, if_neg ho3])
            clear ho3
            go_wp2_with fail
            go_roundg (gk - 1)
            case rel => exact ⟨s4, .mk tx ⟨#[]⟩ 0 [x, y] (t.at_ : Int), _, _, _, _, g, H4.out.1, H4.out.2, P6.out, D6.out, K6.out, T6.out, in64_zero, HAt.out, X6.out, H5.out.1, H5.out.2, HE3.out⟩
            case measure => have := HGk.out; omega
      · have g0 : ((lv : Int) == (o : Int)) = false := by simp; omega
        have HE3 : Hid (exF len (f + 1) (.parts o) d s = (s2, x)) := Lib.hid (by
          rw [← HR.out]
          simp only [exF]
          rw [← HT0.out, if_neg (by rw [← HLv2.out]; exact hlo)])
        clear hlo HIH HF HDk
        go_wp2_with (first
          | (go_at_call 34; have HX := HN.out; (with_reducible refine HX.mono ?_); clear HX; rintro e w6 ⟨rfl, hb⟩; have P6 := Lib.hid (P1.out.below hb); have D6 := Lib.hid (D1.out.then_ hb); have K6 := Lib.hid (K1.out.below hb K1.out.lt); have T6 := Lib.hid (T1.out.below hb T1.out.lt); have X6 := Lib.hid ((X1.out.below hb (fun q hq => hq.2.1)).wide (P' := fun q => w.heap.size ≤ q ∧ q < w6.heap.size ∧ q ≠ w.heap.size) (fun q hq => ⟨hq.1, Nat.lt_of_lt_of_le hq.2.1 hb.size, hq.2.2.1⟩)); have t0 := T6.out.cell 0; have t1 := T6.out.cell 1; have t2 := T6.out.cell 2; have t3 := T6.out.cell 3; have t4 := T6.out.cell 4; simp at t0 t1 t2 t3 t4; have r0 := K6.out.cell 0; have r1 := K6.out.cell 1; have r2 := K6.out.cell 2; have r3 := K6.out.cell 3; have r4 := K6.out.cell 4; have rf0 := K6.out.frozen 0; have rf1 := K6.out.frozen 1; have rf2 := K6.out.frozen 2; have rf3 := K6.out.frozen 3; have rf4 := K6.out.frozen 4; have rl := K6.out.lt; simp at r0 r1 r2 r3 r4; clear hb)
          | (go_at_call 36; (with_reducible refine (HLv.out _).mono ?_); rintro e wz ⟨rfl, rfl⟩))
        have q := ex_box K6.out (.string x.op) (.string x.nm) (.int .i64 x.n) (.slice A m c) (.int .i64 x.a)
        have q0 := q.cell 0
        have q1 := q.cell 1
        have q2 := q.cell 2
        have q3 := q.cell 3
        have q4 := q.cell 4
        simp at q0 q1 q2 q3 q4
        have HZ := fin_ex P6.out D6.out (Nat.le_refl _) HG.out.1 HG.out.2.1 X6.out (.string x.op) (.string x.nm) (.int .i64 x.n) (.slice A m c) (.int .i64 x.a)
        rw [HE3.out]
        refine bodyPost_ret (v := exV x.op x.nm x.n (.slice A m c) x.a) (by simp [results, Tryd.results16, go_sem, q0, q1, q2, q3, q4]) rfl ⟨_, _, _, _, rfl, HZ.1, HZ.2.1, IX.out.1, IX.out.2, HZ.2.2⟩
theorem ex_any (f : Nat) : ∀ g, g ≤ f → PXp B b len M k g ∧ PXs B b len M k g := by
  induction f with
  | zero =>
    intro g hg
    obtain rfl : g = 0 := by omega
    exact ⟨fun d s w _ _ h => by omega, fun o d s w _ h6 _ _ h => by omega⟩
  | succ f ih =>
    intro g hg
    rcases Nat.lt_or_ge g (f + 1) with h | h
    · exact ih g (by omega)
    · obtain rfl : g = f + 1 := by omega
      exact ⟨ppart_step (ih f (Nat.le_refl _)).1 (ih f (Nat.le_refl _)).2, parts_step ih⟩
end
end Go.Proofs.YteaongdlbleehaaDoor
