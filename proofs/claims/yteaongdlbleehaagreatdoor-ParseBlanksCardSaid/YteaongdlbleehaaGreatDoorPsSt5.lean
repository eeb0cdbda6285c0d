/- The parse layer: a statement. -/
import Derived.Test.YteaongdlbleehaaGreatDoorPsSt4
import Derived.Deep.RegionHeld3
namespace Go.Proofs.YteaongdlbleehaaGreatDoor
open Go.RowKit
section
variable {B b len k n : Nat} {M : Value} {s : PS} {w : World}
set_option maxHeartbeats 6400000 in
set_option maxRecDepth 100000 in
theorem stmt_any {blk : PS → PS × List St} (hblk : BlkC B b len M k blk) (hbl : ∀ s, (blk s).1.ts.length ≤ s.ts.length) (hk : KOK k s) (h : Par B b len M k 0 s w) : Calls Tryz.prog 91 #[.pointer (some ⟨b, 0, none⟩)] w (RetS B b len M k (stmtS len blk s) w) := by
  obtain ⟨g, rfl, -⟩ := h.mp
  have hN := nxt_b (len := len) h.hl h.tb
  have ha : In64 ((nxt len s).at_ : Int) := ⟨by omega, by omega⟩
  have hR := stmt_rule hblk hbl hk ha
  have HNx : Hid (∀ w, Par B b len (.map (some g)) k 0 s w → Calls Tryz.prog 86 #[.pointer (some ⟨b, 0, none⟩)] w fun e w' => e = .returned (tkV (nxt len s)) ∧ Below w.heap.size w w') := Lib.hid fun w h => next_any h
  have HTk : Hid (∀ w, Par B b len (.map (some g)) k 0 s w → Calls Tryz.prog 101 #[.pointer (some ⟨b, 0, none⟩)] w (RetP B b len (.map (some g)) k 0 (tkV (nxt len s)) (takeF s) w)) := Lib.hid fun w h => take_any h
  have HFl : Hid (∀ w, Par B b len (.map (some g)) k 0 s w → Calls Tryz.prog 48 #[.pointer (some ⟨b, 0, none⟩), .int .i64 130] w (RetP B b len (.map (some g)) k 0 (.tuple #[]) (failF len 130 s) w)) := Lib.hid fun w h => fail_p h
  obtain ⟨r, hr⟩ : ∃ q, q = stmtS len blk s := ⟨_, rfl⟩
  rw [← hr] at hR ⊢
  clear hr hblk hbl hk hN
  obtain ⟨t, ht⟩ : ∃ q, q = nxt len s := ⟨_, rfl⟩
  rw [← ht] at hR HNx HTk ha
  clear ht
  have HA := Lib.hid ha
  have HIn : Hid (∀ w, Calls Tryz.prog 112 #[tkV t] w fun e w' => e = .returned (.bool (isNm t)) ∧ Below w.heap.size w w') := Lib.hid fun w => isName_any t w
  obtain ⟨ky, hky⟩ : ∃ q, q = keyF t := ⟨_, rfl⟩
  obtain ⟨nm, hnm⟩ : ∃ q, q = nmF t := ⟨_, rfl⟩
  rw [← hky, ← hnm] at hR
  have HR := Lib.hid hR
  obtain ⟨bn, hbn⟩ : ∃ q, q = isNm t := ⟨_, rfl⟩
  rw [← hbn] at HIn
  have HK : Hid (if bn then ky = tAName ∧ nm = t.text else ky = t.text ∧ nm = []) := Lib.hid (by rw [hbn, hky, hnm]; unfold keyF nmF; cases isNm t <;> simp)
  clear hky hnm hbn hR ha
  obtain ⟨W0, hW0⟩ : ∃ W0, W0 = w.alloc (.cells z6 116) := ⟨_, rfl⟩
  have S0 : Hid (SS B b len (.map (some g)) k w s W0) := Lib.hid (by rw [hW0]; exact SS.new h)
  have HW0 := Lib.hid hW0
  clear hW0 h
  go_enter Tryz.func91, Tryz.ntmps91
  go_upto_region 1 with fail
  rw [← HW0.out]
  go_upto_region 2 with (go_at_call 86; have HY := HNx.out _ S0.out.par; (with_reducible refine HY.mono ?_); clear HY; rintro e w1 ⟨rfl, hq⟩; have S1 := Lib.hid (S0.out.below hq); clear hq)
  obtain ⟨g3, hg3⟩ : ∃ q, q = w1.heap.size := ⟨_, rfl⟩
  obtain ⟨W2, hW2⟩ : ∃ q, q = w1.alloc (.cells #[.int .i64 (t.kind : Int), .string (bA t.text), .int .i64 (t.n : Int), .int .i64 (t.at_ : Int)] 49) := ⟨_, rfl⟩
  have E2 : Hid (Below w1.heap.size w1 W2) := Lib.hid (by rw [hW2]; exact (Below.refl _ _).alloc (Nat.le_refl _) _)
  have S2 := Lib.hid (S1.out.below E2.out)
  have T2 : Hid (Blk W2 g3 49 #[.int .i64 (t.kind : Int), .string (bA t.text), .int .i64 (t.n : Int), .int .i64 (t.at_ : Int)]) := Lib.hid (by rw [hW2, hg3]; exact Blk.new w1 _ _)
  have HG : Hid (w.heap.size < g3 ∧ b < g3) := Lib.hid (by rw [hg3]; exact ⟨S1.out.r.lt, Nat.lt_trans S1.out.hb S1.out.r.lt⟩)
  rw [← hW2, ← hg3]
  clear hW2 hg3
  have t0 := T2.out.cell 0
  have t1 := T2.out.cell 1
  have t2 := T2.out.cell 2
  have t3 := T2.out.cell 3
  simp at t0 t1 t2 t3
  go_upto_region 3 with fail
  obtain ⟨g4, hg4⟩ : ∃ q, q = W2.heap.size := ⟨_, rfl⟩
  obtain ⟨W3, hW3⟩ : ∃ q, q = W2.alloc (.cells #[.string (bA t.text), .string ⟨#[]⟩, .slice none 0 0, .slice none 0 0, .slice none 0 0, .int .i64 (t.at_ : Int)] 116) := ⟨_, rfl⟩
  have E3 : Hid (Below W2.heap.size W2 W3) := Lib.hid (by rw [hW3]; exact (Below.refl _ _).alloc (Nat.le_refl _) _)
  have S3 := Lib.hid (S2.out.below E3.out)
  have T3 := Lib.hid (T2.out.below E3.out T2.out.lt)
  have U3 : Hid (Blk W3 g4 116 #[.string (bA t.text), .string ⟨#[]⟩, .slice none 0 0, .slice none 0 0, .slice none 0 0, .int .i64 (t.at_ : Int)]) := Lib.hid (by rw [hW3, hg4]; exact Blk.new W2 _ _)
  have HF : Hid (w.heap.size < g4 ∧ b < g4 ∧ g3 ≠ g4) := Lib.hid (by rw [hg4]; exact ⟨S2.out.r.lt, Nat.lt_trans S2.out.hb S2.out.r.lt, Nat.ne_of_lt T2.out.lt⟩)
  rw [← hW3, ← hg4]
  clear hW3 hg4 t0 t1 t2 t3
  have t0 := T3.out.cell 0
  have t1 := T3.out.cell 1
  have t2 := T3.out.cell 2
  have t3 := T3.out.cell 3
  simp at t0 t1 t2 t3
  cases bn
  · go_upto_region 5 with (go_at_call 112; have HY := HIn.out W3; (with_reducible refine HY.mono ?_); clear HY; rintro e w5 ⟨rfl, hq⟩; have S5 := Lib.hid (S3.out.below hq); have U5 := Lib.hid (U3.out.below hq U3.out.lt); clear hq)
    have U6 : Hid (Blk w5 g4 116 #[.string (bA ky), .string (bA nm), .slice none 0 0, .slice none 0 0, .slice none 0 0, .int .i64 (t.at_ : Int)]) := Lib.hid (by have h := HK.out; simp at h; rw [h.1, h.2]; exact U5.out)
    clear U5 t0 t1 t2 t3
    have SD : Hid (SS B b len (.map (some g)) k w s w5.drew) := Lib.hid (S5.out.below (Below.refl _ _).drew)
    have UD : Hid (Blk w5.drew g4 116 #[.string (bA ky), .string (bA nm), .slice none 0 0, .slice none 0 0, .slice none 0 0, .int .i64 (t.at_ : Int)]) := Lib.hid U6.out
    obtain ⟨A, cap, hB, -⟩ := SD.out.par.mem
    have b6 := hB.cell 6
    have bl := hB.lt
    have u0 := UD.out.cell 0
    simp at b6 u0
    clear hB
    rcases HR.out with ⟨hr, hq⟩ | ⟨i, f, hf, hr, HC⟩
    · have hl := rule_none SD.out.par.map_ hr
      go_region
      clear hl hr
      go_upto_region 8 with (go_at_call 48; have HY := HFl.out _ SD.out.par; (with_reducible refine HY.mono ?_); clear HY; rintro e w7 ⟨rfl, hp, hd⟩; have S7 := Lib.hid (SD.out.step hp hd); have r0 := S7.out.r.cell 0; have r1 := S7.out.r.cell 1; have r2 := S7.out.r.cell 2; have r3 := S7.out.r.cell 3; have r4 := S7.out.r.cell 4; have r5 := S7.out.r.cell 5; have rf0 := S7.out.r.frozen 0; have rf1 := S7.out.r.frozen 1; have rf2 := S7.out.r.frozen 2; have rf3 := S7.out.r.frozen 3; have rf4 := S7.out.r.frozen 4; have rf5 := S7.out.r.frozen 5; have rl := S7.out.r.lt; simp at r0 r1 r2 r3 r4 r5; clear hp hd)
      go_wp2
      have F := S7.out.fin (.string ⟨#[]⟩) (.string ⟨#[]⟩) (.slice none 0 0) (.slice none 0 0) (.slice none 0 0) (.int .i64 0)
      have q0 := F.2.2.cell 0
      have q1 := F.2.2.cell 1
      have q2 := F.2.2.cell 2
      have q3 := F.2.2.cell 3
      have q4 := F.2.2.cell 4
      have q5 := F.2.2.cell 5
      simp at q0 q1 q2 q3 q4 q5
      rw [hq]
      exact bodyPost_ret (v := stV ⟨#[]⟩ ⟨#[]⟩ (.slice none 0 0) (.slice none 0 0) (.slice none 0 0) 0) (by simp [results, Tryz.results91, go_sem, q0, q1, q2, q3, q4, q5]) rfl ⟨1, _, _, _, _, _, _, _, _, _, rfl, F.1, F.2.1, in64_zero, exr_nil, str_nil, str_nil⟩
    · have hl := rule_some SD.out.par.map_ hr
      have HC := Lib.hid HC
      go_region
      clear hl hr b6 bl u0
      obtain ⟨s1, x⟩ := r
      go_upto_region 10 with (go_at_call 101; have HY := HTk.out _ SD.out.par; (with_reducible refine HY.mono ?_); clear HY; rintro e w9 ⟨rfl, hp, hd⟩; have S9 := Lib.hid (SD.out.step hp hd); have U9 := Lib.hid (hd.blk UD.out (Nat.ne_of_gt HF.out.2.1)); clear hp hd)
      have u0 := U9.out.cell 0
      have u1 := U9.out.cell 1
      have u2 := U9.out.cell 2
      have u3 := U9.out.cell 3
      have u4 := U9.out.cell 4
      have u5 := U9.out.cell 5
      simp at u0 u1 u2 u3 u4 u5
      simp only [List.mem_cons, List.not_mem_nil, or_false] at hf
      rcases hf with rfl | rfl | rfl | rfl | rfl | rfl
      · go_wp2_with (go_at_call 80; have HY := HC.out _ S9.out.par; (with_reducible refine HY.mono ?_); clear HY; rintro e w10 ⟨nf, Af, mf, cf, A2f, m2f, c2f, A3f, m3f, c3f, rfl, hp, hd, hi, h1, h2, h3⟩; have S10 := Lib.hid (S9.out.step hp hd); have r0 := S10.out.r.cell 0; have r1 := S10.out.r.cell 1; have r2 := S10.out.r.cell 2; have r3 := S10.out.r.cell 3; have r4 := S10.out.r.cell 4; have r5 := S10.out.r.cell 5; have rf0 := S10.out.r.frozen 0; have rf1 := S10.out.r.frozen 1; have rf2 := S10.out.r.frozen 2; have rf3 := S10.out.r.frozen 3; have rf4 := S10.out.r.frozen 4; have rf5 := S10.out.r.frozen 5; have rl := S10.out.r.lt; simp at r0 r1 r2 r3 r4 r5; clear hp hd)
        have F := S10.out.fin (.string x.op) (.string x.nm) (.slice Af mf cf) (.slice A2f m2f c2f) (.slice A3f m3f c3f) (.int .i64 x.a)
        have q0 := F.2.2.cell 0
        have q1 := F.2.2.cell 1
        have q2 := F.2.2.cell 2
        have q3 := F.2.2.cell 3
        have q4 := F.2.2.cell 4
        have q5 := F.2.2.cell 5
        simp at q0 q1 q2 q3 q4 q5
        exact bodyPost_ret (v := stV x.op x.nm (.slice Af mf cf) (.slice A2f m2f c2f) (.slice A3f m3f c3f) x.a) (by simp [results, Tryz.results91, go_sem, q0, q1, q2, q3, q4, q5]) rfl ⟨nf, _, _, _, _, _, _, _, _, _, rfl, F.1, F.2.1, hi, h1.fin0 S9.out.r.lt _ _ _ _ _ _, h2.fin0 S9.out.r.lt _ _ _ _ _ _, h3.fin0 S9.out.r.lt _ _ _ _ _ _⟩
      · go_wp2_with (go_at_call 81; have HY := HC.out _ S9.out.par; (with_reducible refine HY.mono ?_); clear HY; rintro e w10 ⟨nf, Af, mf, cf, A2f, m2f, c2f, A3f, m3f, c3f, rfl, hp, hd, hi, h1, h2, h3⟩; have S10 := Lib.hid (S9.out.step hp hd); have r0 := S10.out.r.cell 0; have r1 := S10.out.r.cell 1; have r2 := S10.out.r.cell 2; have r3 := S10.out.r.cell 3; have r4 := S10.out.r.cell 4; have r5 := S10.out.r.cell 5; have rf0 := S10.out.r.frozen 0; have rf1 := S10.out.r.frozen 1; have rf2 := S10.out.r.frozen 2; have rf3 := S10.out.r.frozen 3; have rf4 := S10.out.r.frozen 4; have rf5 := S10.out.r.frozen 5; have rl := S10.out.r.lt; simp at r0 r1 r2 r3 r4 r5; clear hp hd)
        have F := S10.out.fin (.string x.op) (.string x.nm) (.slice Af mf cf) (.slice A2f m2f c2f) (.slice A3f m3f c3f) (.int .i64 x.a)
        have q0 := F.2.2.cell 0
        have q1 := F.2.2.cell 1
        have q2 := F.2.2.cell 2
        have q3 := F.2.2.cell 3
        have q4 := F.2.2.cell 4
        have q5 := F.2.2.cell 5
        simp at q0 q1 q2 q3 q4 q5
        exact bodyPost_ret (v := stV x.op x.nm (.slice Af mf cf) (.slice A2f m2f c2f) (.slice A3f m3f c3f) x.a) (by simp [results, Tryz.results91, go_sem, q0, q1, q2, q3, q4, q5]) rfl ⟨nf, _, _, _, _, _, _, _, _, _, rfl, F.1, F.2.1, hi, h1.fin0 S9.out.r.lt _ _ _ _ _ _, h2.fin0 S9.out.r.lt _ _ _ _ _ _, h3.fin0 S9.out.r.lt _ _ _ _ _ _⟩
      · go_wp2_with (go_at_call 82; have HY := HC.out _ S9.out.par; (with_reducible refine HY.mono ?_); clear HY; rintro e w10 ⟨nf, Af, mf, cf, A2f, m2f, c2f, A3f, m3f, c3f, rfl, hp, hd, hi, h1, h2, h3⟩; have S10 := Lib.hid (S9.out.step hp hd); have r0 := S10.out.r.cell 0; have r1 := S10.out.r.cell 1; have r2 := S10.out.r.cell 2; have r3 := S10.out.r.cell 3; have r4 := S10.out.r.cell 4; have r5 := S10.out.r.cell 5; have rf0 := S10.out.r.frozen 0; have rf1 := S10.out.r.frozen 1; have rf2 := S10.out.r.frozen 2; have rf3 := S10.out.r.frozen 3; have rf4 := S10.out.r.frozen 4; have rf5 := S10.out.r.frozen 5; have rl := S10.out.r.lt; simp at r0 r1 r2 r3 r4 r5; clear hp hd)
        have F := S10.out.fin (.string x.op) (.string x.nm) (.slice Af mf cf) (.slice A2f m2f c2f) (.slice A3f m3f c3f) (.int .i64 x.a)
        have q0 := F.2.2.cell 0
        have q1 := F.2.2.cell 1
        have q2 := F.2.2.cell 2
        have q3 := F.2.2.cell 3
        have q4 := F.2.2.cell 4
        have q5 := F.2.2.cell 5
        simp at q0 q1 q2 q3 q4 q5
        exact bodyPost_ret (v := stV x.op x.nm (.slice Af mf cf) (.slice A2f m2f c2f) (.slice A3f m3f c3f) x.a) (by simp [results, Tryz.results91, go_sem, q0, q1, q2, q3, q4, q5]) rfl ⟨nf, _, _, _, _, _, _, _, _, _, rfl, F.1, F.2.1, hi, h1.fin0 S9.out.r.lt _ _ _ _ _ _, h2.fin0 S9.out.r.lt _ _ _ _ _ _, h3.fin0 S9.out.r.lt _ _ _ _ _ _⟩
      · go_wp2_with (go_at_call 83; have HY := HC.out _ S9.out.par; (with_reducible refine HY.mono ?_); clear HY; rintro e w10 ⟨nf, Af, mf, cf, A2f, m2f, c2f, A3f, m3f, c3f, rfl, hp, hd, hi, h1, h2, h3⟩; have S10 := Lib.hid (S9.out.step hp hd); have r0 := S10.out.r.cell 0; have r1 := S10.out.r.cell 1; have r2 := S10.out.r.cell 2; have r3 := S10.out.r.cell 3; have r4 := S10.out.r.cell 4; have r5 := S10.out.r.cell 5; have rf0 := S10.out.r.frozen 0; have rf1 := S10.out.r.frozen 1; have rf2 := S10.out.r.frozen 2; have rf3 := S10.out.r.frozen 3; have rf4 := S10.out.r.frozen 4; have rf5 := S10.out.r.frozen 5; have rl := S10.out.r.lt; simp at r0 r1 r2 r3 r4 r5; clear hp hd)
        have F := S10.out.fin (.string x.op) (.string x.nm) (.slice Af mf cf) (.slice A2f m2f c2f) (.slice A3f m3f c3f) (.int .i64 x.a)
        have q0 := F.2.2.cell 0
        have q1 := F.2.2.cell 1
        have q2 := F.2.2.cell 2
        have q3 := F.2.2.cell 3
        have q4 := F.2.2.cell 4
        have q5 := F.2.2.cell 5
        simp at q0 q1 q2 q3 q4 q5
        exact bodyPost_ret (v := stV x.op x.nm (.slice Af mf cf) (.slice A2f m2f c2f) (.slice A3f m3f c3f) x.a) (by simp [results, Tryz.results91, go_sem, q0, q1, q2, q3, q4, q5]) rfl ⟨nf, _, _, _, _, _, _, _, _, _, rfl, F.1, F.2.1, hi, h1.fin0 S9.out.r.lt _ _ _ _ _ _, h2.fin0 S9.out.r.lt _ _ _ _ _ _, h3.fin0 S9.out.r.lt _ _ _ _ _ _⟩
      · go_wp2_with (go_at_call 84; have HY := HC.out _ S9.out.par; (with_reducible refine HY.mono ?_); clear HY; rintro e w10 ⟨nf, Af, mf, cf, A2f, m2f, c2f, A3f, m3f, c3f, rfl, hp, hd, hi, h1, h2, h3⟩; have S10 := Lib.hid (S9.out.step hp hd); have r0 := S10.out.r.cell 0; have r1 := S10.out.r.cell 1; have r2 := S10.out.r.cell 2; have r3 := S10.out.r.cell 3; have r4 := S10.out.r.cell 4; have r5 := S10.out.r.cell 5; have rf0 := S10.out.r.frozen 0; have rf1 := S10.out.r.frozen 1; have rf2 := S10.out.r.frozen 2; have rf3 := S10.out.r.frozen 3; have rf4 := S10.out.r.frozen 4; have rf5 := S10.out.r.frozen 5; have rl := S10.out.r.lt; simp at r0 r1 r2 r3 r4 r5; clear hp hd)
        have F := S10.out.fin (.string x.op) (.string x.nm) (.slice Af mf cf) (.slice A2f m2f c2f) (.slice A3f m3f c3f) (.int .i64 x.a)
        have q0 := F.2.2.cell 0
        have q1 := F.2.2.cell 1
        have q2 := F.2.2.cell 2
        have q3 := F.2.2.cell 3
        have q4 := F.2.2.cell 4
        have q5 := F.2.2.cell 5
        simp at q0 q1 q2 q3 q4 q5
        exact bodyPost_ret (v := stV x.op x.nm (.slice Af mf cf) (.slice A2f m2f c2f) (.slice A3f m3f c3f) x.a) (by simp [results, Tryz.results91, go_sem, q0, q1, q2, q3, q4, q5]) rfl ⟨nf, _, _, _, _, _, _, _, _, _, rfl, F.1, F.2.1, hi, h1.fin0 S9.out.r.lt _ _ _ _ _ _, h2.fin0 S9.out.r.lt _ _ _ _ _ _, h3.fin0 S9.out.r.lt _ _ _ _ _ _⟩
      · go_wp2_with (go_at_call 85; have HY := HC.out _ S9.out.par; (with_reducible refine HY.mono ?_); clear HY; rintro e w10 ⟨nf, Af, mf, cf, A2f, m2f, c2f, A3f, m3f, c3f, rfl, hp, hd, hi, h1, h2, h3⟩; have S10 := Lib.hid (S9.out.step hp hd); have r0 := S10.out.r.cell 0; have r1 := S10.out.r.cell 1; have r2 := S10.out.r.cell 2; have r3 := S10.out.r.cell 3; have r4 := S10.out.r.cell 4; have r5 := S10.out.r.cell 5; have rf0 := S10.out.r.frozen 0; have rf1 := S10.out.r.frozen 1; have rf2 := S10.out.r.frozen 2; have rf3 := S10.out.r.frozen 3; have rf4 := S10.out.r.frozen 4; have rf5 := S10.out.r.frozen 5; have rl := S10.out.r.lt; simp at r0 r1 r2 r3 r4 r5; clear hp hd)
        have F := S10.out.fin (.string x.op) (.string x.nm) (.slice Af mf cf) (.slice A2f m2f c2f) (.slice A3f m3f c3f) (.int .i64 x.a)
        have q0 := F.2.2.cell 0
        have q1 := F.2.2.cell 1
        have q2 := F.2.2.cell 2
        have q3 := F.2.2.cell 3
        have q4 := F.2.2.cell 4
        have q5 := F.2.2.cell 5
        simp at q0 q1 q2 q3 q4 q5
        exact bodyPost_ret (v := stV x.op x.nm (.slice Af mf cf) (.slice A2f m2f c2f) (.slice A3f m3f c3f) x.a) (by simp [results, Tryz.results91, go_sem, q0, q1, q2, q3, q4, q5]) rfl ⟨nf, _, _, _, _, _, _, _, _, _, rfl, F.1, F.2.1, hi, h1.fin0 S9.out.r.lt _ _ _ _ _ _, h2.fin0 S9.out.r.lt _ _ _ _ _ _, h3.fin0 S9.out.r.lt _ _ _ _ _ _⟩

  · go_upto_region 4 with (go_at_call 112; have HY := HIn.out W3; (with_reducible refine HY.mono ?_); clear HY; rintro e w4 ⟨rfl, hq⟩; have S4 := Lib.hid (S3.out.below hq); have U4 := Lib.hid (U3.out.below hq U3.out.lt); have T4 := Lib.hid (T3.out.below hq T3.out.lt); clear hq t0 t1 t2 t3)
    have t1 := T4.out.cell 1
    have u0 := U4.out.cell 0
    have u1 := U4.out.cell 1
    have uf0 := U4.out.frozen 0
    have uf1 := U4.out.frozen 1
    have ul := U4.out.lt
    simp at t1 u0 u1
    have KS0 : Hid (w4.drew.cell? ⟨g3, 1, none⟩ = some (.string (bA t.text))) := Lib.hid t1
    have KS1 : Hid ((w4.setCell ⟨g4, 0, none⟩ (.string ⟨#[97, 32, 110, 97, 109, 101]⟩)).drew.cell? ⟨g3, 1, none⟩ = some (.string (bA t.text))) := Lib.hid ((T4.out.far (w := w4) (p := ⟨g4, 0, none⟩) HF.out.2.2 _).cell 1)
    have KS2 : Hid (((w4.setCell ⟨g4, 0, none⟩ (.string ⟨#[97, 32, 110, 97, 109, 101]⟩)).setCell ⟨g4, 1, none⟩ (.string (bA t.text))).drew.cell? ⟨g3, 1, none⟩ = some (.string (bA t.text))) := Lib.hid (((T4.out.far (w := w4) (p := ⟨g4, 0, none⟩) HF.out.2.2 _).far (p := ⟨g4, 1, none⟩) HF.out.2.2 _).cell 1)
    go_region_held3 (fun w' => w'.cell? ⟨g3, 1, none⟩ = some (.string (bA t.text)))
      (first | (with_reducible exact KS0.out) | (with_reducible exact KS1.out) | (with_reducible exact KS2.out))
      (fail)
    all_goals (
      obtain ⟨w5, hw5⟩ : ∃ q, q = ((w4.setCell ⟨g4, 0, none⟩ (.string ⟨#[97, 32, 110, 97, 109, 101]⟩)).setCell ⟨g4, 1, none⟩ (.string (bA t.text))).drew := ⟨_, rfl⟩
      have S5 : Hid (SS B b len (.map (some g)) k w s w5) := Lib.hid (by rw [hw5]; exact (((S4.out.far (p := ⟨g4, 0, none⟩) HF.out.1 _).far (p := ⟨g4, 1, none⟩) HF.out.1 _).below (Below.refl _ _).drew))
      have U5 : Hid (Blk w5 g4 116 #[.string ⟨#[97, 32, 110, 97, 109, 101]⟩, .string (bA t.text), .slice none 0 0, .slice none 0 0, .slice none 0 0, .int .i64 (t.at_ : Int)]) := Lib.hid (by rw [hw5]; exact (U4.out.set_ 0 _).set_ 1 _)
      have U6 : Hid (Blk w5 g4 116 #[.string (bA ky), .string (bA nm), .slice none 0 0, .slice none 0 0, .slice none 0 0, .int .i64 (t.at_ : Int)]) := Lib.hid (by have h := HK.out; simp at h; rw [h.1, h.2]; exact U5.out)
      clear U5 KS0 KS1 KS2 t1 u0 u1 uf0 uf1 ul
      rw [← hw5]
      clear hw5
      go_upto_region 5 with fail
      have SD : Hid (SS B b len (.map (some g)) k w s w5.drew) := Lib.hid (S5.out.below (Below.refl _ _).drew)
      have UD : Hid (Blk w5.drew g4 116 #[.string (bA ky), .string (bA nm), .slice none 0 0, .slice none 0 0, .slice none 0 0, .int .i64 (t.at_ : Int)]) := Lib.hid U6.out
      obtain ⟨A, cap, hB, -⟩ := SD.out.par.mem
      have b6 := hB.cell 6
      have bl := hB.lt
      have u0 := UD.out.cell 0
      simp at b6 u0
      clear hB
      rcases HR.out with ⟨hr, hq⟩ | ⟨i, f, hf, hr, HC⟩
      · have hl := rule_none SD.out.par.map_ hr
        go_region
        clear hl hr
        go_upto_region 8 with (go_at_call 48; have HY := HFl.out _ SD.out.par; (with_reducible refine HY.mono ?_); clear HY; rintro e w7 ⟨rfl, hp, hd⟩; have S7 := Lib.hid (SD.out.step hp hd); have r0 := S7.out.r.cell 0; have r1 := S7.out.r.cell 1; have r2 := S7.out.r.cell 2; have r3 := S7.out.r.cell 3; have r4 := S7.out.r.cell 4; have r5 := S7.out.r.cell 5; have rf0 := S7.out.r.frozen 0; have rf1 := S7.out.r.frozen 1; have rf2 := S7.out.r.frozen 2; have rf3 := S7.out.r.frozen 3; have rf4 := S7.out.r.frozen 4; have rf5 := S7.out.r.frozen 5; have rl := S7.out.r.lt; simp at r0 r1 r2 r3 r4 r5; clear hp hd)
        go_wp2
        have F := S7.out.fin (.string ⟨#[]⟩) (.string ⟨#[]⟩) (.slice none 0 0) (.slice none 0 0) (.slice none 0 0) (.int .i64 0)
        have q0 := F.2.2.cell 0
        have q1 := F.2.2.cell 1
        have q2 := F.2.2.cell 2
        have q3 := F.2.2.cell 3
        have q4 := F.2.2.cell 4
        have q5 := F.2.2.cell 5
        simp at q0 q1 q2 q3 q4 q5
        rw [hq]
        exact bodyPost_ret (v := stV ⟨#[]⟩ ⟨#[]⟩ (.slice none 0 0) (.slice none 0 0) (.slice none 0 0) 0) (by simp [results, Tryz.results91, go_sem, q0, q1, q2, q3, q4, q5]) rfl ⟨1, _, _, _, _, _, _, _, _, _, rfl, F.1, F.2.1, in64_zero, exr_nil, str_nil, str_nil⟩
      · have hl := rule_some SD.out.par.map_ hr
        have HC := Lib.hid HC
        go_region
        clear hl hr b6 bl u0
        obtain ⟨s1, x⟩ := r
        go_upto_region 10 with (go_at_call 101; have HY := HTk.out _ SD.out.par; (with_reducible refine HY.mono ?_); clear HY; rintro e w9 ⟨rfl, hp, hd⟩; have S9 := Lib.hid (SD.out.step hp hd); have U9 := Lib.hid (hd.blk UD.out (Nat.ne_of_gt HF.out.2.1)); clear hp hd)
        have u0 := U9.out.cell 0
        have u1 := U9.out.cell 1
        have u2 := U9.out.cell 2
        have u3 := U9.out.cell 3
        have u4 := U9.out.cell 4
        have u5 := U9.out.cell 5
        simp at u0 u1 u2 u3 u4 u5
        simp only [List.mem_cons, List.not_mem_nil, or_false] at hf
        rcases hf with rfl | rfl | rfl | rfl | rfl | rfl
        · go_wp2_with (go_at_call 80; have HY := HC.out _ S9.out.par; (with_reducible refine HY.mono ?_); clear HY; rintro e w10 ⟨nf, Af, mf, cf, A2f, m2f, c2f, A3f, m3f, c3f, rfl, hp, hd, hi, h1, h2, h3⟩; have S10 := Lib.hid (S9.out.step hp hd); have r0 := S10.out.r.cell 0; have r1 := S10.out.r.cell 1; have r2 := S10.out.r.cell 2; have r3 := S10.out.r.cell 3; have r4 := S10.out.r.cell 4; have r5 := S10.out.r.cell 5; have rf0 := S10.out.r.frozen 0; have rf1 := S10.out.r.frozen 1; have rf2 := S10.out.r.frozen 2; have rf3 := S10.out.r.frozen 3; have rf4 := S10.out.r.frozen 4; have rf5 := S10.out.r.frozen 5; have rl := S10.out.r.lt; simp at r0 r1 r2 r3 r4 r5; clear hp hd)
          have F := S10.out.fin (.string x.op) (.string x.nm) (.slice Af mf cf) (.slice A2f m2f c2f) (.slice A3f m3f c3f) (.int .i64 x.a)
          have q0 := F.2.2.cell 0
          have q1 := F.2.2.cell 1
          have q2 := F.2.2.cell 2
          have q3 := F.2.2.cell 3
          have q4 := F.2.2.cell 4
          have q5 := F.2.2.cell 5
          simp at q0 q1 q2 q3 q4 q5
          exact bodyPost_ret (v := stV x.op x.nm (.slice Af mf cf) (.slice A2f m2f c2f) (.slice A3f m3f c3f) x.a) (by simp [results, Tryz.results91, go_sem, q0, q1, q2, q3, q4, q5]) rfl ⟨nf, _, _, _, _, _, _, _, _, _, rfl, F.1, F.2.1, hi, h1.fin0 S9.out.r.lt _ _ _ _ _ _, h2.fin0 S9.out.r.lt _ _ _ _ _ _, h3.fin0 S9.out.r.lt _ _ _ _ _ _⟩
        · go_wp2_with (go_at_call 81; have HY := HC.out _ S9.out.par; (with_reducible refine HY.mono ?_); clear HY; rintro e w10 ⟨nf, Af, mf, cf, A2f, m2f, c2f, A3f, m3f, c3f, rfl, hp, hd, hi, h1, h2, h3⟩; have S10 := Lib.hid (S9.out.step hp hd); have r0 := S10.out.r.cell 0; have r1 := S10.out.r.cell 1; have r2 := S10.out.r.cell 2; have r3 := S10.out.r.cell 3; have r4 := S10.out.r.cell 4; have r5 := S10.out.r.cell 5; have rf0 := S10.out.r.frozen 0; have rf1 := S10.out.r.frozen 1; have rf2 := S10.out.r.frozen 2; have rf3 := S10.out.r.frozen 3; have rf4 := S10.out.r.frozen 4; have rf5 := S10.out.r.frozen 5; have rl := S10.out.r.lt; simp at r0 r1 r2 r3 r4 r5; clear hp hd)
          have F := S10.out.fin (.string x.op) (.string x.nm) (.slice Af mf cf) (.slice A2f m2f c2f) (.slice A3f m3f c3f) (.int .i64 x.a)
          have q0 := F.2.2.cell 0
          have q1 := F.2.2.cell 1
          have q2 := F.2.2.cell 2
          have q3 := F.2.2.cell 3
          have q4 := F.2.2.cell 4
          have q5 := F.2.2.cell 5
          simp at q0 q1 q2 q3 q4 q5
          exact bodyPost_ret (v := stV x.op x.nm (.slice Af mf cf) (.slice A2f m2f c2f) (.slice A3f m3f c3f) x.a) (by simp [results, Tryz.results91, go_sem, q0, q1, q2, q3, q4, q5]) rfl ⟨nf, _, _, _, _, _, _, _, _, _, rfl, F.1, F.2.1, hi, h1.fin0 S9.out.r.lt _ _ _ _ _ _, h2.fin0 S9.out.r.lt _ _ _ _ _ _, h3.fin0 S9.out.r.lt _ _ _ _ _ _⟩
        · go_wp2_with (go_at_call 82; have HY := HC.out _ S9.out.par; (with_reducible refine HY.mono ?_); clear HY; rintro e w10 ⟨nf, Af, mf, cf, A2f, m2f, c2f, A3f, m3f, c3f, rfl, hp, hd, hi, h1, h2, h3⟩; have S10 := Lib.hid (S9.out.step hp hd); have r0 := S10.out.r.cell 0; have r1 := S10.out.r.cell 1; have r2 := S10.out.r.cell 2; have r3 := S10.out.r.cell 3; have r4 := S10.out.r.cell 4; have r5 := S10.out.r.cell 5; have rf0 := S10.out.r.frozen 0; have rf1 := S10.out.r.frozen 1; have rf2 := S10.out.r.frozen 2; have rf3 := S10.out.r.frozen 3; have rf4 := S10.out.r.frozen 4; have rf5 := S10.out.r.frozen 5; have rl := S10.out.r.lt; simp at r0 r1 r2 r3 r4 r5; clear hp hd)
          have F := S10.out.fin (.string x.op) (.string x.nm) (.slice Af mf cf) (.slice A2f m2f c2f) (.slice A3f m3f c3f) (.int .i64 x.a)
          have q0 := F.2.2.cell 0
          have q1 := F.2.2.cell 1
          have q2 := F.2.2.cell 2
          have q3 := F.2.2.cell 3
          have q4 := F.2.2.cell 4
          have q5 := F.2.2.cell 5
          simp at q0 q1 q2 q3 q4 q5
          exact bodyPost_ret (v := stV x.op x.nm (.slice Af mf cf) (.slice A2f m2f c2f) (.slice A3f m3f c3f) x.a) (by simp [results, Tryz.results91, go_sem, q0, q1, q2, q3, q4, q5]) rfl ⟨nf, _, _, _, _, _, _, _, _, _, rfl, F.1, F.2.1, hi, h1.fin0 S9.out.r.lt _ _ _ _ _ _, h2.fin0 S9.out.r.lt _ _ _ _ _ _, h3.fin0 S9.out.r.lt _ _ _ _ _ _⟩
        · go_wp2_with (go_at_call 83; have HY := HC.out _ S9.out.par; (with_reducible refine HY.mono ?_); clear HY; rintro e w10 ⟨nf, Af, mf, cf, A2f, m2f, c2f, A3f, m3f, c3f, rfl, hp, hd, hi, h1, h2, h3⟩; have S10 := Lib.hid (S9.out.step hp hd); have r0 := S10.out.r.cell 0; have r1 := S10.out.r.cell 1; have r2 := S10.out.r.cell 2; have r3 := S10.out.r.cell 3; have r4 := S10.out.r.cell 4; have r5 := S10.out.r.cell 5; have rf0 := S10.out.r.frozen 0; have rf1 := S10.out.r.frozen 1; have rf2 := S10.out.r.frozen 2; have rf3 := S10.out.r.frozen 3; have rf4 := S10.out.r.frozen 4; have rf5 := S10.out.r.frozen 5; have rl := S10.out.r.lt; simp at r0 r1 r2 r3 r4 r5; clear hp hd)
          have F := S10.out.fin (.string x.op) (.string x.nm) (.slice Af mf cf) (.slice A2f m2f c2f) (.slice A3f m3f c3f) (.int .i64 x.a)
          have q0 := F.2.2.cell 0
          have q1 := F.2.2.cell 1
          have q2 := F.2.2.cell 2
          have q3 := F.2.2.cell 3
          have q4 := F.2.2.cell 4
          have q5 := F.2.2.cell 5
          simp at q0 q1 q2 q3 q4 q5
          exact bodyPost_ret (v := stV x.op x.nm (.slice Af mf cf) (.slice A2f m2f c2f) (.slice A3f m3f c3f) x.a) (by simp [results, Tryz.results91, go_sem, q0, q1, q2, q3, q4, q5]) rfl ⟨nf, _, _, _, _, _, _, _, _, _, rfl, F.1, F.2.1, hi, h1.fin0 S9.out.r.lt _ _ _ _ _ _, h2.fin0 S9.out.r.lt _ _ _ _ _ _, h3.fin0 S9.out.r.lt _ _ _ _ _ _⟩
        · go_wp2_with (go_at_call 84; have HY := HC.out _ S9.out.par; (with_reducible refine HY.mono ?_); clear HY; rintro e w10 ⟨nf, Af, mf, cf, A2f, m2f, c2f, A3f, m3f, c3f, rfl, hp, hd, hi, h1, h2, h3⟩; have S10 := Lib.hid (S9.out.step hp hd); have r0 := S10.out.r.cell 0; have r1 := S10.out.r.cell 1; have r2 := S10.out.r.cell 2; have r3 := S10.out.r.cell 3; have r4 := S10.out.r.cell 4; have r5 := S10.out.r.cell 5; have rf0 := S10.out.r.frozen 0; have rf1 := S10.out.r.frozen 1; have rf2 := S10.out.r.frozen 2; have rf3 := S10.out.r.frozen 3; have rf4 := S10.out.r.frozen 4; have rf5 := S10.out.r.frozen 5; have rl := S10.out.r.lt; simp at r0 r1 r2 r3 r4 r5; clear hp hd)
          have F := S10.out.fin (.string x.op) (.string x.nm) (.slice Af mf cf) (.slice A2f m2f c2f) (.slice A3f m3f c3f) (.int .i64 x.a)
          have q0 := F.2.2.cell 0
          have q1 := F.2.2.cell 1
          have q2 := F.2.2.cell 2
          have q3 := F.2.2.cell 3
          have q4 := F.2.2.cell 4
          have q5 := F.2.2.cell 5
          simp at q0 q1 q2 q3 q4 q5
          exact bodyPost_ret (v := stV x.op x.nm (.slice Af mf cf) (.slice A2f m2f c2f) (.slice A3f m3f c3f) x.a) (by simp [results, Tryz.results91, go_sem, q0, q1, q2, q3, q4, q5]) rfl ⟨nf, _, _, _, _, _, _, _, _, _, rfl, F.1, F.2.1, hi, h1.fin0 S9.out.r.lt _ _ _ _ _ _, h2.fin0 S9.out.r.lt _ _ _ _ _ _, h3.fin0 S9.out.r.lt _ _ _ _ _ _⟩
        · go_wp2_with (go_at_call 85; have HY := HC.out _ S9.out.par; (with_reducible refine HY.mono ?_); clear HY; rintro e w10 ⟨nf, Af, mf, cf, A2f, m2f, c2f, A3f, m3f, c3f, rfl, hp, hd, hi, h1, h2, h3⟩; have S10 := Lib.hid (S9.out.step hp hd); have r0 := S10.out.r.cell 0; have r1 := S10.out.r.cell 1; have r2 := S10.out.r.cell 2; have r3 := S10.out.r.cell 3; have r4 := S10.out.r.cell 4; have r5 := S10.out.r.cell 5; have rf0 := S10.out.r.frozen 0; have rf1 := S10.out.r.frozen 1; have rf2 := S10.out.r.frozen 2; have rf3 := S10.out.r.frozen 3; have rf4 := S10.out.r.frozen 4; have rf5 := S10.out.r.frozen 5; have rl := S10.out.r.lt; simp at r0 r1 r2 r3 r4 r5; clear hp hd)
          have F := S10.out.fin (.string x.op) (.string x.nm) (.slice Af mf cf) (.slice A2f m2f c2f) (.slice A3f m3f c3f) (.int .i64 x.a)
          have q0 := F.2.2.cell 0
          have q1 := F.2.2.cell 1
          have q2 := F.2.2.cell 2
          have q3 := F.2.2.cell 3
          have q4 := F.2.2.cell 4
          have q5 := F.2.2.cell 5
          simp at q0 q1 q2 q3 q4 q5
          exact bodyPost_ret (v := stV x.op x.nm (.slice Af mf cf) (.slice A2f m2f c2f) (.slice A3f m3f c3f) x.a) (by simp [results, Tryz.results91, go_sem, q0, q1, q2, q3, q4, q5]) rfl ⟨nf, _, _, _, _, _, _, _, _, _, rfl, F.1, F.2.1, hi, h1.fin0 S9.out.r.lt _ _ _ _ _ _, h2.fin0 S9.out.r.lt _ _ _ _ _ _, h3.fin0 S9.out.r.lt _ _ _ _ _ _⟩

    )
end
end Go.Proofs.YteaongdlbleehaaGreatDoor
