/- The parse layer: change. -/
import Derived.Test.YteaongdlbleehaaDoorPsSt2
namespace Go.Proofs.YteaongdlbleehaaDoor
open Go.RowKit
section
variable {B b len k n : Nat} {M : Value} {s : PS} {w : World}
set_option maxHeartbeats 6400000 in
set_option maxRecDepth 100000 in
theorem change_any (OP : ByteArray) (nm : Bs) (a : Int) (ha : In64 a) (h : Par B b len M k 0 s w) : Calls Tryd.prog 28 #[.pointer (some ⟨b, 0, none⟩), stV OP (bA nm) (.slice none 0 0) (.slice none 0 0) (.slice none 0 0) a] w (RetS B b len M k (changeS len nm a s) w) := by
  obtain ⟨NM, hNM⟩ : ∃ q, q = bA nm := ⟨_, rfl⟩
  rw [← hNM]
  have HA := Lib.hid ha
  obtain ⟨bi, hbi⟩ : ∃ q, q = isF len [91] s := ⟨_, rfl⟩
  have HS1 : Hid (∀ w, Par B b len M k 0 s w → Calls Tryd.prog 56 #[.pointer (some ⟨b, 0, none⟩), .string ⟨#[91]⟩] w (RetP B b len M k 0 (.bool bi) (if bi then takeF s else s) w)) := Lib.hid fun w h => by
    have := skip_any [91] h
    unfold skipF at this
    rw [← hbi] at this
    exact this
  obtain ⟨rp, hrp⟩ : ∃ q, q = putS len nm a (takeF s) := ⟨_, rfl⟩
  have HPut : Hid (∀ w, Par B b len M k 0 (takeF s) w → Calls Tryd.prog 57 #[.pointer (some ⟨b, 0, none⟩), stV OP NM (.slice none 0 0) (.slice none 0 0) (.slice none 0 0) a] w (RetS B b len M k rp w)) := Lib.hid fun w h => by rw [hrp, hNM]; exact put_any OP nm a ha h
  obtain ⟨p1, hp1⟩ : ∃ q, q = expF len [61] s := ⟨_, rfl⟩
  have HX1 : Hid (∀ w, Par B b len M k 0 s w → Calls Tryd.prog 40 #[.pointer (some ⟨b, 0, none⟩), .string ⟨#[61]⟩] w (RetP B b len M k 0 (.tuple #[]) p1 w)) := Lib.hid fun w h => by rw [hp1]; exact expect_any [61] h
  obtain ⟨bj, hbj⟩ : ∃ q, q = isF len sInput p1 := ⟨_, rfl⟩
  have HS2 : Hid (∀ w, Par B b len M k 0 p1 w → Calls Tryd.prog 56 #[.pointer (some ⟨b, 0, none⟩), .string ⟨#[105, 110, 112, 117, 116]⟩] w (RetP B b len M k 0 (.bool bj) (if bj then takeF p1 else p1) w)) := Lib.hid fun w h => by
    have := skip_any sInput h
    unfold skipF at this
    rw [← hbj] at this
    exact this
  obtain ⟨ri, hri⟩ : ∃ q, q = inputS len nm a (takeF p1) := ⟨_, rfl⟩
  have HIn : Hid (∀ w, Par B b len M k 0 (takeF p1) w → Calls Tryd.prog 58 #[.pointer (some ⟨b, 0, none⟩), stV OP NM (.slice none 0 0) (.slice none 0 0) (.slice none 0 0) a] w (RetS B b len M k ri w)) := Lib.hid fun w h => by rw [hri, hNM]; exact input_any OP nm a ha h
  obtain ⟨r, hr⟩ : ∃ q, q = exE len p1 := ⟨_, rfl⟩
  have HEx : Hid (∀ w, Par B b len M k 0 p1 w → Calls Tryd.prog 9 #[.pointer (some ⟨b, 0, none⟩)] w (RetX B b len M k 0 r w)) := Lib.hid fun w h => by rw [hr]; exact exprE_any h
  have HRes : Hid (changeS len nm a s = if bi then rp else if bj then ri else (expF len [59] r.1, .mk ⟨#[115, 101, 116]⟩ NM [r.2] [] [] a)) := Lib.hid (by unfold changeS; rw [← hbi, ← hrp, ← hp1, ← hbj, ← hri, ← hr, ← hNM]; rfl)
  obtain ⟨W0, hW0⟩ : ∃ W0, W0 = (w.alloc (.cells #[.string OP, .string NM, .slice none 0 0, .slice none 0 0, .slice none 0 0, .int .i64 a] 96)).alloc (.cells z6 96) := ⟨_, rfl⟩
  have S0 : Hid (SM B b len M k w #[.string OP, .string NM, .slice none 0 0, .slice none 0 0, .slice none 0 0, .int .i64 a] s W0) := Lib.hid (by rw [hW0]; exact SM.new h _)
  have HW0 := Lib.hid hW0
  clear hNM ha hbi hrp hp1 hbj hri hr
  clear hW0 h
  go_enter Tryd.func28, Tryd.ntmps28
  go_upto_region 1 with fail
  rw [← HW0.out]
  cases bi
  · go_upto_region 3 with (go_at_call 56; have HY := HS1.out _ S0.out.par; (with_reducible refine HY.mono ?_); clear HY; rintro e w1 ⟨rfl, hp, hd⟩; have S1 := Lib.hid (S0.out.step hp hd); clear hp hd)
    go_upto_region 4 with (go_at_call 40; have HY := HX1.out _ S1.out.par; (with_reducible refine HY.mono ?_); clear HY; rintro e w2 ⟨rfl, hp, hd⟩; have S2 := Lib.hid (S1.out.step hp hd); have H2 := Lib.hid hd; clear hp hd)
    cases bj
    · go_upto_region 6 with (go_at_call 56; have HY := HS2.out _ S2.out.par; (with_reducible refine HY.mono ?_); clear HY; rintro e w3 ⟨rfl, hp, hd⟩; have S3 := Lib.hid (S2.out.step hp hd); clear hp hd)
      obtain ⟨s5, y⟩ := r
      go_upto_region 7 with (go_at_call 9; have HY := HEx.out _ S3.out.par; (with_reducible refine HY.mono ?_); clear HY; rintro e w5 ⟨nL, AL, mL, cL, rfl, hp, hd, hi1, hi2, hr⟩; have S5 := Lib.hid (S3.out.step hp hd); have R5 : Hid (ExR (NewR w w5) nL w5 _ (.slice AL mL cL)) := Lib.hid (hr.wide (fun q hq => ⟨Nat.le_trans S3.out.size hq.1, hq.2⟩)); have I5 := Lib.hid (And.intro hi1 hi2); have H5 := Lib.hid hd; have t0 := S5.out.t.cell 0; have t1 := S5.out.t.cell 1; have t2 := S5.out.t.cell 2; have t3 := S5.out.t.cell 3; have t4 := S5.out.t.cell 4; have t5 := S5.out.t.cell 5; have tf0 := S5.out.t.frozen 0; have tf1 := S5.out.t.frozen 1; have tf2 := S5.out.t.frozen 2; have tf3 := S5.out.t.frozen 3; have tf4 := S5.out.t.frozen 4; have tf5 := S5.out.t.frozen 5; have tl := S5.out.t.lt; simp at t0 t1 t2 t3 t4 t5; clear hp hd hi1 hi2 hr)
      obtain ⟨wq, hwq⟩ : ∃ q, q = ((w5.setCell ⟨w.heap.size, 0, none⟩ (.string ⟨#[115, 101, 116]⟩)).setCell ⟨w.heap.size, 2, none⟩ (.slice (some ⟨w5.heap.size, 0, none⟩) 1 1)) := ⟨_, rfl⟩
      have Zq : Hid (wq.heap.size = w5.heap.size) := Lib.hid (by rw [hwq]; simp [World.setCell])
      have Sq : Hid (SM B b len M k w #[.string ⟨#[115, 101, 116]⟩, .string NM, .slice (some ⟨w5.heap.size, 0, none⟩) 1 1, .slice none 0 0, .slice none 0 0, .int .i64 a] s5 wq) := Lib.hid (by rw [hwq]; exact ((S5.out.set 0 (.string ⟨#[115, 101, 116]⟩)).set 2 (.slice (some ⟨w5.heap.size, 0, none⟩) 1 1)))
      have Rq : Hid (ExR (NewR w wq) nL wq y.l (.slice AL mL cL)) := Lib.hid (by rw [hwq]; exact ((R5.out.new_set 0 (.string ⟨#[115, 101, 116]⟩)).new_set 2 (.slice (some ⟨w5.heap.size, 0, none⟩) 1 1)))
      rw [← hwq]
      clear hwq
      obtain ⟨Wr, hWr⟩ : ∃ q, q = wq.alloc (.cells #[.string y.op, .string y.nm, .int .i64 y.n, .slice AL mL cL, .int .i64 y.a] 24) := ⟨_, rfl⟩
      have Er : Hid (Below wq.heap.size wq Wr) := Lib.hid (by rw [hWr]; exact (Below.refl _ _).alloc (Nat.le_refl _) _)
      have Sr := Lib.hid (Sq.out.below Er.out)
      have Nr : Hid (Blk Wr w5.heap.size 24 #[.string y.op, .string y.nm, .int .i64 y.n, .slice AL mL cL, .int .i64 y.a]) := Lib.hid (by rw [hWr, ← Zq.out]; exact Blk.new wq _ _)
      have Xr : Hid (ExR (NewR w Wr) (nL + 1) Wr [y] (.slice (some ⟨w5.heap.size, 0, none⟩) 1 1)) := Lib.hid (exr_one Nr.out ⟨S5.out.size, Nr.out.lt⟩ I5.out.1 I5.out.2 (Rq.out.new_below Er.out))
      rw [← hWr]
      clear hWr
      clear t0 t1 t2 t3 t4 t5 tf0 tf1 tf2 tf3 tf4 tf5 tl
      have t0 := Sr.out.t.cell 0
      have t1 := Sr.out.t.cell 1
      have t2 := Sr.out.t.cell 2
      have t3 := Sr.out.t.cell 3
      have t4 := Sr.out.t.cell 4
      have t5 := Sr.out.t.cell 5
      simp at t0 t1 t2 t3 t4 t5
      go_wp2_with (go_at_call 33; have HY := end_any ⟨#[115, 101, 116]⟩ NM (some ⟨w5.heap.size, 0, none⟩) none none 1 1 0 0 0 0 a Sr.out.par; (with_reducible refine HY.mono ?_); clear HY; rintro e w6 ⟨rfl, hp, hd⟩; have S6 := Lib.hid (Sr.out.step hp hd); have H6 := Lib.hid hd; have r0 := S6.out.z.cell 0; have r1 := S6.out.z.cell 1; have r2 := S6.out.z.cell 2; have r3 := S6.out.z.cell 3; have r4 := S6.out.z.cell 4; have r5 := S6.out.z.cell 5; have rf0 := S6.out.z.frozen 0; have rf1 := S6.out.z.frozen 1; have rf2 := S6.out.z.frozen 2; have rf3 := S6.out.z.frozen 3; have rf4 := S6.out.z.frozen 4; have rf5 := S6.out.z.frozen 5; have rl := S6.out.z.lt; simp at r0 r1 r2 r3 r4 r5; clear hp hd)
      have X6 := Lib.hid (Xr.out.new_pd H6.out S0.out.hb)
      have F := S6.out.fin (.string ⟨#[115, 101, 116]⟩) (.string NM) (.slice (some ⟨w5.heap.size, 0, none⟩) 1 1) (.slice none 0 0) (.slice none 0 0) (.int .i64 a)
      have q0 := F.blk.cell 0
      have q1 := F.blk.cell 1
      have q2 := F.blk.cell 2
      have q3 := F.blk.cell 3
      have q4 := F.blk.cell 4
      have q5 := F.blk.cell 5
      simp at q0 q1 q2 q3 q4 q5
      rw [HRes.out]
      exact bodyPost_ret (v := stV ⟨#[115, 101, 116]⟩ NM (.slice (some ⟨w5.heap.size, 0, none⟩) 1 1) (.slice none 0 0) (.slice none 0 0) a) (by simp [results, Tryd.results28, go_sem, q0, q1, q2, q3, q4, q5]) rfl ⟨nL + 1, _, _, _, _, _, _, _, _, _, rfl, F.par, F.pd, HA.out, X6.out.fin _ _ _ _ _ _, str_nil, str_nil⟩
    · go_upto_region 5 with (go_at_call 56; have HY := HS2.out _ S2.out.par; (with_reducible refine HY.mono ?_); clear HY; rintro e w3 ⟨rfl, hp, hd⟩; have S3 := Lib.hid (S2.out.step hp hd); clear hp hd)
      have t0 := S3.out.t.cell 0
      have t1 := S3.out.t.cell 1
      have t2 := S3.out.t.cell 2
      have t3 := S3.out.t.cell 3
      have t4 := S3.out.t.cell 4
      have t5 := S3.out.t.cell 5
      simp at t0 t1 t2 t3 t4 t5
      obtain ⟨s1, x⟩ := ri
      go_wp2_with (go_at_call 58; have HY := HIn.out _ S3.out.par; (with_reducible refine HY.mono ?_); clear HY; rintro e w4 ⟨nf, Af, mf, cf, A2f, m2f, c2f, A3f, m3f, c3f, rfl, hp, hd, hi, h1, h2, h3⟩; have S4 := Lib.hid (S3.out.step hp hd); have Xf : Hid (ExR (NewR w w4) nf w4 _ (.slice Af mf cf)) := Lib.hid (h1.wide (fun q hq => ⟨Nat.le_trans S3.out.size hq.1, hq.2⟩)); have Yf : Hid (StR (NewR w w4) nf w4 _ (.slice A2f m2f c2f)) := Lib.hid (h2.wide (fun q hq => ⟨Nat.le_trans S3.out.size hq.1, hq.2⟩)); have Zf : Hid (StR (NewR w w4) nf w4 _ (.slice A3f m3f c3f)) := Lib.hid (h3.wide (fun q hq => ⟨Nat.le_trans S3.out.size hq.1, hq.2⟩)); have If := Lib.hid hi; have Hf := Lib.hid hd; have r0 := S4.out.z.cell 0; have r1 := S4.out.z.cell 1; have r2 := S4.out.z.cell 2; have r3 := S4.out.z.cell 3; have r4 := S4.out.z.cell 4; have r5 := S4.out.z.cell 5; have rf0 := S4.out.z.frozen 0; have rf1 := S4.out.z.frozen 1; have rf2 := S4.out.z.frozen 2; have rf3 := S4.out.z.frozen 3; have rf4 := S4.out.z.frozen 4; have rf5 := S4.out.z.frozen 5; have rl := S4.out.z.lt; simp at r0 r1 r2 r3 r4 r5; clear hp hd hi h1 h2 h3)
      have F := S4.out.fin (.string x.op) (.string x.nm) (.slice Af mf cf) (.slice A2f m2f c2f) (.slice A3f m3f c3f) (.int .i64 x.a)
      have q0 := F.blk.cell 0
      have q1 := F.blk.cell 1
      have q2 := F.blk.cell 2
      have q3 := F.blk.cell 3
      have q4 := F.blk.cell 4
      have q5 := F.blk.cell 5
      simp at q0 q1 q2 q3 q4 q5
      rw [HRes.out]
      exact bodyPost_ret (v := stV x.op x.nm (.slice Af mf cf) (.slice A2f m2f c2f) (.slice A3f m3f c3f) x.a) (by simp [results, Tryd.results28, go_sem, q0, q1, q2, q3, q4, q5]) rfl ⟨nf, _, _, _, _, _, _, _, _, _, rfl, F.par, F.pd, If.out, Xf.out.fin _ _ _ _ _ _, Yf.out.fin _ _ _ _ _ _, Zf.out.fin _ _ _ _ _ _⟩
  · go_upto_region 2 with (go_at_call 56; have HY := HS1.out _ S0.out.par; (with_reducible refine HY.mono ?_); clear HY; rintro e w1 ⟨rfl, hp, hd⟩; have S1 := Lib.hid (S0.out.step hp hd); clear hp hd)
    have t0 := S1.out.t.cell 0
    have t1 := S1.out.t.cell 1
    have t2 := S1.out.t.cell 2
    have t3 := S1.out.t.cell 3
    have t4 := S1.out.t.cell 4
    have t5 := S1.out.t.cell 5
    simp at t0 t1 t2 t3 t4 t5
    obtain ⟨s1, x⟩ := rp
    go_wp2_with (go_at_call 57; have HY := HPut.out _ S1.out.par; (with_reducible refine HY.mono ?_); clear HY; rintro e w2 ⟨nf, Af, mf, cf, A2f, m2f, c2f, A3f, m3f, c3f, rfl, hp, hd, hi, h1, h2, h3⟩; have S2 := Lib.hid (S1.out.step hp hd); have Xf : Hid (ExR (NewR w w2) nf w2 _ (.slice Af mf cf)) := Lib.hid (h1.wide (fun q hq => ⟨Nat.le_trans S1.out.size hq.1, hq.2⟩)); have Yf : Hid (StR (NewR w w2) nf w2 _ (.slice A2f m2f c2f)) := Lib.hid (h2.wide (fun q hq => ⟨Nat.le_trans S1.out.size hq.1, hq.2⟩)); have Zf : Hid (StR (NewR w w2) nf w2 _ (.slice A3f m3f c3f)) := Lib.hid (h3.wide (fun q hq => ⟨Nat.le_trans S1.out.size hq.1, hq.2⟩)); have If := Lib.hid hi; have Hf := Lib.hid hd; have r0 := S2.out.z.cell 0; have r1 := S2.out.z.cell 1; have r2 := S2.out.z.cell 2; have r3 := S2.out.z.cell 3; have r4 := S2.out.z.cell 4; have r5 := S2.out.z.cell 5; have rf0 := S2.out.z.frozen 0; have rf1 := S2.out.z.frozen 1; have rf2 := S2.out.z.frozen 2; have rf3 := S2.out.z.frozen 3; have rf4 := S2.out.z.frozen 4; have rf5 := S2.out.z.frozen 5; have rl := S2.out.z.lt; simp at r0 r1 r2 r3 r4 r5; clear hp hd hi h1 h2 h3)
    have F := S2.out.fin (.string x.op) (.string x.nm) (.slice Af mf cf) (.slice A2f m2f c2f) (.slice A3f m3f c3f) (.int .i64 x.a)
    have q0 := F.blk.cell 0
    have q1 := F.blk.cell 1
    have q2 := F.blk.cell 2
    have q3 := F.blk.cell 3
    have q4 := F.blk.cell 4
    have q5 := F.blk.cell 5
    simp at q0 q1 q2 q3 q4 q5
    rw [HRes.out]
    exact bodyPost_ret (v := stV x.op x.nm (.slice Af mf cf) (.slice A2f m2f c2f) (.slice A3f m3f c3f) x.a) (by simp [results, Tryd.results28, go_sem, q0, q1, q2, q3, q4, q5]) rfl ⟨nf, _, _, _, _, _, _, _, _, _, rfl, F.par, F.pd, If.out, Xf.out.fin _ _ _ _ _ _, Yf.out.fin _ _ _ _ _ _, Zf.out.fin _ _ _ _ _ _⟩
end
end Go.Proofs.YteaongdlbleehaaDoor
