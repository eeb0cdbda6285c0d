/- Put together of: PsSt1, PsSt2, PsSt3. -/
import Derived.Test.YteaongdlbleehaaGreatDoorPsSt0
import Derived.Deep.RegionHeld3
/- The parse layer: how statements go on. -/
namespace Go.Proofs.YteaongdlbleehaaGreatDoor
open Go.RowKit
section
variable {B b len k n : Nat} {M : Value} {s : PS} {w : World}
set_option maxHeartbeats 6400000 in
set_option maxRecDepth 100000 in
theorem call_any (op : Bs) (a : Int) (ha : In64 a) (h : Par B b len M k 0 s w) : Calls Tryz.prog 84 #[.pointer (some ⟨b, 0, none⟩), stV (bA op) ⟨#[]⟩ (.slice none 0 0) (.slice none 0 0) (.slice none 0 0) a] w (RetS B b len M k (callS len op a s) w) := by
  obtain ⟨OP, hOP⟩ : ∃ q, q = bA op := ⟨_, rfl⟩
  obtain ⟨r, hr⟩ : ∃ q, q = nameF len s := ⟨_, rfl⟩
  have HNm : Hid (∀ w, Par B b len M k 0 s w → Calls Tryz.prog 90 #[.pointer (some ⟨b, 0, none⟩)] w (RetP B b len M k 0 (.string (bA r.2)) r.1 w)) := Lib.hid fun w h => by rw [hr]; exact name_any h
  obtain ⟨NM, hNM⟩ : ∃ q, q = bA r.2 := ⟨_, rfl⟩
  have HRes : Hid (callS len op a s = (expF len [59] r.1, .mk OP NM [] [] [] a)) := Lib.hid (by unfold callS; rw [← hr, ← hOP, hNM])
  rw [← hOP]
  rw [← hNM] at HNm
  have HA := Lib.hid ha
  obtain ⟨W0, hW0⟩ : ∃ W0, W0 = (w.alloc (.cells #[.string OP, .string ⟨#[]⟩, .slice none 0 0, .slice none 0 0, .slice none 0 0, .int .i64 a] 116)).alloc (.cells z6 116) := ⟨_, rfl⟩
  have S0 : Hid (SM B b len M k w #[.string OP, .string ⟨#[]⟩, .slice none 0 0, .slice none 0 0, .slice none 0 0, .int .i64 a] s W0) := Lib.hid (by rw [hW0]; exact SM.new h _)
  have HW0 := Lib.hid hW0
  clear hOP hr hNM ha
  clear hW0 h
  go_enter Tryz.func84, Tryz.ntmps84
  go_upto_region 1 with fail
  rw [← HW0.out]
  obtain ⟨s1, nm1⟩ := r
  go_upto_region 2 with (go_at_call 90; have HY := HNm.out _ S0.out.par; (with_reducible refine HY.mono ?_); clear HY; rintro e w1 ⟨rfl, hp, hd⟩; have S1 := Lib.hid (S0.out.step hp hd); have t0 := S1.out.t.cell 0; have t1 := S1.out.t.cell 1; have t2 := S1.out.t.cell 2; have t3 := S1.out.t.cell 3; have t4 := S1.out.t.cell 4; have t5 := S1.out.t.cell 5; have tf0 := S1.out.t.frozen 0; have tf1 := S1.out.t.frozen 1; have tf2 := S1.out.t.frozen 2; have tf3 := S1.out.t.frozen 3; have tf4 := S1.out.t.frozen 4; have tf5 := S1.out.t.frozen 5; have tl := S1.out.t.lt; simp at t0 t1 t2 t3 t4 t5; clear hp hd)
  obtain ⟨w2, hw2⟩ : ∃ q, q = w1.setCell ⟨w.heap.size, 1, none⟩ (.string NM) := ⟨_, rfl⟩
  have S2 : Hid (SM B b len M k w #[.string OP, .string NM, .slice none 0 0, .slice none 0 0, .slice none 0 0, .int .i64 a] s1 w2) := Lib.hid (by rw [hw2]; exact S1.out.set 1 _)
  rw [← hw2]
  clear hw2
  clear t0 t1 t2 t3 t4 t5 tf0 tf1 tf2 tf3 tf4 tf5 tl
  have t0 := S2.out.t.cell 0
  have t1 := S2.out.t.cell 1
  have t2 := S2.out.t.cell 2
  have t3 := S2.out.t.cell 3
  have t4 := S2.out.t.cell 4
  have t5 := S2.out.t.cell 5
  simp at t0 t1 t2 t3 t4 t5
  go_wp2_with (go_at_call 85; have HY := end_any OP NM none none none 0 0 0 0 0 0 a S2.out.par; (with_reducible refine HY.mono ?_); clear HY; rintro e w3 ⟨rfl, hp, hd⟩; have S3 := Lib.hid (S2.out.step hp hd); have H3 := Lib.hid hd; have r0 := S3.out.z.cell 0; have r1 := S3.out.z.cell 1; have r2 := S3.out.z.cell 2; have r3 := S3.out.z.cell 3; have r4 := S3.out.z.cell 4; have r5 := S3.out.z.cell 5; have rf0 := S3.out.z.frozen 0; have rf1 := S3.out.z.frozen 1; have rf2 := S3.out.z.frozen 2; have rf3 := S3.out.z.frozen 3; have rf4 := S3.out.z.frozen 4; have rf5 := S3.out.z.frozen 5; have rl := S3.out.z.lt; simp at r0 r1 r2 r3 r4 r5; clear hp hd)
  have F := S3.out.fin (.string OP) (.string NM) (.slice none 0 0) (.slice none 0 0) (.slice none 0 0) (.int .i64 a)
  have q0 := F.blk.cell 0
  have q1 := F.blk.cell 1
  have q2 := F.blk.cell 2
  have q3 := F.blk.cell 3
  have q4 := F.blk.cell 4
  have q5 := F.blk.cell 5
  simp at q0 q1 q2 q3 q4 q5
  rw [HRes.out]
  exact bodyPost_ret (v := stV OP NM (.slice none 0 0) (.slice none 0 0) (.slice none 0 0) a) (by simp [results, Tryz.results84, go_sem, q0, q1, q2, q3, q4, q5]) rfl ⟨1, _, _, _, _, _, _, _, _, _, rfl, F.par, F.pd, HA.out, exr_nil, str_nil, str_nil⟩
set_option maxHeartbeats 6400000 in
set_option maxRecDepth 100000 in
theorem claim_any (op : Bs) (a : Int) (ha : In64 a) (h : Par B b len M k 0 s w) : Calls Tryz.prog 83 #[.pointer (some ⟨b, 0, none⟩), stV (bA op) ⟨#[]⟩ (.slice none 0 0) (.slice none 0 0) (.slice none 0 0) a] w (RetS B b len M k (claimS len op a s) w) := by
  obtain ⟨OP, hOP⟩ : ∃ q, q = bA op := ⟨_, rfl⟩
  obtain ⟨r, hr⟩ : ∃ q, q = exE len s := ⟨_, rfl⟩
  have HEx : Hid (∀ w, Par B b len M k 0 s w → Calls Tryz.prog 40 #[.pointer (some ⟨b, 0, none⟩)] w (RetX B b len M k 0 r w)) := Lib.hid fun w h => by rw [hr]; exact exprE_any h
  have HRes : Hid (claimS len op a s = (expF len [59] r.1, .mk OP ⟨#[]⟩ [r.2] [] [] a)) := Lib.hid (by unfold claimS; rw [← hr, ← hOP])
  rw [← hOP]
  have HA := Lib.hid ha
  obtain ⟨W0, hW0⟩ : ∃ W0, W0 = (w.alloc (.cells #[.string OP, .string ⟨#[]⟩, .slice none 0 0, .slice none 0 0, .slice none 0 0, .int .i64 a] 116)).alloc (.cells z6 116) := ⟨_, rfl⟩
  have S0 : Hid (SM B b len M k w #[.string OP, .string ⟨#[]⟩, .slice none 0 0, .slice none 0 0, .slice none 0 0, .int .i64 a] s W0) := Lib.hid (by rw [hW0]; exact SM.new h _)
  have HW0 := Lib.hid hW0
  clear hOP hr ha
  clear hW0 h
  go_enter Tryz.func83, Tryz.ntmps83
  go_upto_region 1 with fail
  rw [← HW0.out]
  obtain ⟨s1, y⟩ := r
  go_upto_region 2 with (go_at_call 40; have HY := HEx.out _ S0.out.par; (with_reducible refine HY.mono ?_); clear HY; rintro e w1 ⟨nL, AL, mL, cL, rfl, hp, hd, hi1, hi2, hr⟩; have S1 := Lib.hid (S0.out.step hp hd); have R1 : Hid (ExR (NewR w w1) nL w1 _ (.slice AL mL cL)) := Lib.hid (hr.wide (fun q hq => ⟨Nat.le_trans S0.out.size hq.1, hq.2⟩)); have I1 := Lib.hid (And.intro hi1 hi2); have H1 := Lib.hid hd; have t0 := S1.out.t.cell 0; have t1 := S1.out.t.cell 1; have t2 := S1.out.t.cell 2; have t3 := S1.out.t.cell 3; have t4 := S1.out.t.cell 4; have t5 := S1.out.t.cell 5; have tf0 := S1.out.t.frozen 0; have tf1 := S1.out.t.frozen 1; have tf2 := S1.out.t.frozen 2; have tf3 := S1.out.t.frozen 3; have tf4 := S1.out.t.frozen 4; have tf5 := S1.out.t.frozen 5; have tl := S1.out.t.lt; simp at t0 t1 t2 t3 t4 t5; clear hp hd hi1 hi2 hr)
  obtain ⟨wq, hwq⟩ : ∃ q, q = (w1.setCell ⟨w.heap.size, 2, none⟩ (.slice (some ⟨w1.heap.size, 0, none⟩) 1 1)) := ⟨_, rfl⟩
  have Zq : Hid (wq.heap.size = w1.heap.size) := Lib.hid (by rw [hwq]; simp [World.setCell])
  have Sq : Hid (SM B b len M k w #[.string OP, .string ⟨#[]⟩, .slice (some ⟨w1.heap.size, 0, none⟩) 1 1, .slice none 0 0, .slice none 0 0, .int .i64 a] s1 wq) := Lib.hid (by rw [hwq]; exact (S1.out.set 2 (.slice (some ⟨w1.heap.size, 0, none⟩) 1 1)))
  have Rq : Hid (ExR (NewR w wq) nL wq y.l (.slice AL mL cL)) := Lib.hid (by rw [hwq]; exact (R1.out.new_set 2 (.slice (some ⟨w1.heap.size, 0, none⟩) 1 1)))
  rw [← hwq]
  clear hwq
  obtain ⟨Wr, hWr⟩ : ∃ q, q = wq.alloc (.cells #[.string y.op, .string y.nm, .int .i64 y.n, .slice AL mL cL, .int .i64 y.a] 52) := ⟨_, rfl⟩
  have Er : Hid (Below wq.heap.size wq Wr) := Lib.hid (by rw [hWr]; exact (Below.refl _ _).alloc (Nat.le_refl _) _)
  have Sr := Lib.hid (Sq.out.below Er.out)
  have Nr : Hid (Blk Wr w1.heap.size 52 #[.string y.op, .string y.nm, .int .i64 y.n, .slice AL mL cL, .int .i64 y.a]) := Lib.hid (by rw [hWr, ← Zq.out]; exact Blk.new wq _ _)
  have Xr : Hid (ExR (NewR w Wr) (nL + 1) Wr [y] (.slice (some ⟨w1.heap.size, 0, none⟩) 1 1)) := Lib.hid (exr_one Nr.out ⟨S1.out.size, Nr.out.lt⟩ I1.out.1 I1.out.2 (Rq.out.new_below Er.out))
  rw [← hWr]
  clear hWr
  clear t0 t1 t2 t3 t4 t5 tf0 tf1 tf2 tf3 tf4 tf5 tl
  have t0 := Sr.out.t.cell 0
  have t1 := Sr.out.t.cell 1
  have t2 := Sr.out.t.cell 2
  have t3 := Sr.out.t.cell 3
  have t4 := Sr.out.t.cell 4
  have t5 := Sr.out.t.cell 5
  simp at t0 t1 t2 t3 t4 t5
  go_wp2_with (go_at_call 85; have HY := end_any OP ⟨#[]⟩ (some ⟨w1.heap.size, 0, none⟩) none none 1 1 0 0 0 0 a Sr.out.par; (with_reducible refine HY.mono ?_); clear HY; rintro e w3 ⟨rfl, hp, hd⟩; have S3 := Lib.hid (Sr.out.step hp hd); have H3 := Lib.hid hd; have r0 := S3.out.z.cell 0; have r1 := S3.out.z.cell 1; have r2 := S3.out.z.cell 2; have r3 := S3.out.z.cell 3; have r4 := S3.out.z.cell 4; have r5 := S3.out.z.cell 5; have rf0 := S3.out.z.frozen 0; have rf1 := S3.out.z.frozen 1; have rf2 := S3.out.z.frozen 2; have rf3 := S3.out.z.frozen 3; have rf4 := S3.out.z.frozen 4; have rf5 := S3.out.z.frozen 5; have rl := S3.out.z.lt; simp at r0 r1 r2 r3 r4 r5; clear hp hd)
  have X3 := Lib.hid (Xr.out.new_pd H3.out S0.out.hb)
  have F := S3.out.fin (.string OP) (.string ⟨#[]⟩) (.slice (some ⟨w1.heap.size, 0, none⟩) 1 1) (.slice none 0 0) (.slice none 0 0) (.int .i64 a)
  have q0 := F.blk.cell 0
  have q1 := F.blk.cell 1
  have q2 := F.blk.cell 2
  have q3 := F.blk.cell 3
  have q4 := F.blk.cell 4
  have q5 := F.blk.cell 5
  simp at q0 q1 q2 q3 q4 q5
  rw [HRes.out]
  exact bodyPost_ret (v := stV OP ⟨#[]⟩ (.slice (some ⟨w1.heap.size, 0, none⟩) 1 1) (.slice none 0 0) (.slice none 0 0) a) (by simp [results, Tryz.results83, go_sem, q0, q1, q2, q3, q4, q5]) rfl ⟨nL + 1, _, _, _, _, _, _, _, _, _, rfl, F.par, F.pd, HA.out, X3.out.fin _ _ _ _ _ _, str_nil, str_nil⟩
set_option maxHeartbeats 6400000 in
set_option maxRecDepth 100000 in
theorem loop_any (op : Bs) (a : Int) (ha : In64 a) {blk : PS → PS × List St} (hblk : BlkC B b len M k blk) (hk : KOK k (exE len s).1) (h : Par B b len M k 0 s w) : Calls Tryz.prog 82 #[.pointer (some ⟨b, 0, none⟩), stV (bA op) ⟨#[]⟩ (.slice none 0 0) (.slice none 0 0) (.slice none 0 0) a] w (RetS B b len M k (loopS len blk op a s) w) := by
  obtain ⟨OP, hOP⟩ : ∃ q, q = bA op := ⟨_, rfl⟩
  obtain ⟨r, hr⟩ : ∃ q, q = exE len s := ⟨_, rfl⟩
  have HEx : Hid (∀ w, Par B b len M k 0 s w → Calls Tryz.prog 40 #[.pointer (some ⟨b, 0, none⟩)] w (RetX B b len M k 0 r w)) := Lib.hid fun w h => by rw [hr]; exact exprE_any h
  rw [← hr] at hk
  obtain ⟨r2, hr2⟩ : ∃ q, q = blk r.1 := ⟨_, rfl⟩
  have HBk : Hid (∀ w, Par B b len M k 0 r.1 w → Calls Tryz.prog 52 #[.pointer (some ⟨b, 0, none⟩)] w (RetB B b len M k r2 w)) := Lib.hid fun w h => by rw [hr2]; exact hblk _ _ h hk
  have HRes : Hid (loopS len blk op a s = (r2.1, .mk OP ⟨#[]⟩ [r.2] r2.2 [] a)) := Lib.hid (by unfold loopS; rw [← hr, ← hr2, ← hOP])
  rw [← hOP]
  have HA := Lib.hid ha
  obtain ⟨W0, hW0⟩ : ∃ W0, W0 = (w.alloc (.cells #[.string OP, .string ⟨#[]⟩, .slice none 0 0, .slice none 0 0, .slice none 0 0, .int .i64 a] 116)).alloc (.cells z6 116) := ⟨_, rfl⟩
  have S0 : Hid (SM B b len M k w #[.string OP, .string ⟨#[]⟩, .slice none 0 0, .slice none 0 0, .slice none 0 0, .int .i64 a] s W0) := Lib.hid (by rw [hW0]; exact SM.new h _)
  have HW0 := Lib.hid hW0
  clear hOP hr ha hr2 hk hblk
  clear hW0 h
  go_enter Tryz.func82, Tryz.ntmps82
  go_upto_region 1 with fail
  rw [← HW0.out]
  obtain ⟨s1, y⟩ := r
  obtain ⟨s2, l⟩ := r2
  go_upto_region 2 with (go_at_call 40; have HY := HEx.out _ S0.out.par; (with_reducible refine HY.mono ?_); clear HY; rintro e w1 ⟨nL, AL, mL, cL, rfl, hp, hd, hi1, hi2, hr⟩; have S1 := Lib.hid (S0.out.step hp hd); have R1 : Hid (ExR (NewR w w1) nL w1 _ (.slice AL mL cL)) := Lib.hid (hr.wide (fun q hq => ⟨Nat.le_trans S0.out.size hq.1, hq.2⟩)); have I1 := Lib.hid (And.intro hi1 hi2); have H1 := Lib.hid hd; have t0 := S1.out.t.cell 0; have t1 := S1.out.t.cell 1; have t2 := S1.out.t.cell 2; have t3 := S1.out.t.cell 3; have t4 := S1.out.t.cell 4; have t5 := S1.out.t.cell 5; have tf0 := S1.out.t.frozen 0; have tf1 := S1.out.t.frozen 1; have tf2 := S1.out.t.frozen 2; have tf3 := S1.out.t.frozen 3; have tf4 := S1.out.t.frozen 4; have tf5 := S1.out.t.frozen 5; have tl := S1.out.t.lt; simp at t0 t1 t2 t3 t4 t5; clear hp hd hi1 hi2 hr)
  obtain ⟨wq, hwq⟩ : ∃ q, q = (w1.setCell ⟨w.heap.size, 2, none⟩ (.slice (some ⟨w1.heap.size, 0, none⟩) 1 1)) := ⟨_, rfl⟩
  have Zq : Hid (wq.heap.size = w1.heap.size) := Lib.hid (by rw [hwq]; simp [World.setCell])
  have Sq : Hid (SM B b len M k w #[.string OP, .string ⟨#[]⟩, .slice (some ⟨w1.heap.size, 0, none⟩) 1 1, .slice none 0 0, .slice none 0 0, .int .i64 a] s1 wq) := Lib.hid (by rw [hwq]; exact (S1.out.set 2 (.slice (some ⟨w1.heap.size, 0, none⟩) 1 1)))
  have Rq : Hid (ExR (NewR w wq) nL wq y.l (.slice AL mL cL)) := Lib.hid (by rw [hwq]; exact (R1.out.new_set 2 (.slice (some ⟨w1.heap.size, 0, none⟩) 1 1)))
  rw [← hwq]
  clear hwq
  obtain ⟨Wr, hWr⟩ : ∃ q, q = wq.alloc (.cells #[.string y.op, .string y.nm, .int .i64 y.n, .slice AL mL cL, .int .i64 y.a] 52) := ⟨_, rfl⟩
  have Er : Hid (Below wq.heap.size wq Wr) := Lib.hid (by rw [hWr]; exact (Below.refl _ _).alloc (Nat.le_refl _) _)
  have Sr := Lib.hid (Sq.out.below Er.out)
  have Nr : Hid (Blk Wr w1.heap.size 52 #[.string y.op, .string y.nm, .int .i64 y.n, .slice AL mL cL, .int .i64 y.a]) := Lib.hid (by rw [hWr, ← Zq.out]; exact Blk.new wq _ _)
  have Xr : Hid (ExR (NewR w Wr) (nL + 1) Wr [y] (.slice (some ⟨w1.heap.size, 0, none⟩) 1 1)) := Lib.hid (exr_one Nr.out ⟨S1.out.size, Nr.out.lt⟩ I1.out.1 I1.out.2 (Rq.out.new_below Er.out))
  rw [← hWr]
  clear hWr
  clear t0 t1 t2 t3 t4 t5 tf0 tf1 tf2 tf3 tf4 tf5 tl
  go_upto_region 3 with (go_at_call 52; have HY := HBk.out _ Sr.out.par; (with_reducible refine HY.mono ?_); clear HY; rintro e w3 ⟨nR2, AR2, mR2, cR2, rfl, hp, hd, hr⟩; have S3 := Lib.hid (Sr.out.step hp hd); have R2 : Hid (StR (NewR w w3) nR2 w3 _ (.slice AR2 mR2 cR2)) := Lib.hid (hr.wide (fun q hq => ⟨Nat.le_trans Sr.out.size hq.1, hq.2⟩)); have H3 := Lib.hid hd; have t0 := S3.out.t.cell 0; have t1 := S3.out.t.cell 1; have t2 := S3.out.t.cell 2; have t3 := S3.out.t.cell 3; have t4 := S3.out.t.cell 4; have t5 := S3.out.t.cell 5; have tf0 := S3.out.t.frozen 0; have tf1 := S3.out.t.frozen 1; have tf2 := S3.out.t.frozen 2; have tf3 := S3.out.t.frozen 3; have tf4 := S3.out.t.frozen 4; have tf5 := S3.out.t.frozen 5; have tl := S3.out.t.lt; simp at t0 t1 t2 t3 t4 t5; clear hp hd hr)
  have X3 := Lib.hid (Xr.out.new_pd H3.out S0.out.hb)
  obtain ⟨w4, hw4⟩ : ∃ q, q = w3.setCell ⟨w.heap.size, 3, none⟩ (.slice AR2 mR2 cR2) := ⟨_, rfl⟩
  have S4 : Hid (SM B b len M k w #[.string OP, .string ⟨#[]⟩, .slice (some ⟨w1.heap.size, 0, none⟩) 1 1, .slice AR2 mR2 cR2, .slice none 0 0, .int .i64 a] s2 w4) := Lib.hid (by rw [hw4]; exact S3.out.set 3 _)
  have X4 : Hid (ExR (NewR w w4) (nL + 1) w4 [y] (.slice (some ⟨w1.heap.size, 0, none⟩) 1 1)) := Lib.hid (by rw [hw4]; exact X3.out.new_set 3 _)
  have R4 : Hid (StR (NewR w w4) nR2 w4 l (.slice AR2 mR2 cR2)) := Lib.hid (by rw [hw4]; exact R2.out.new_set 3 _)
  rw [← hw4]
  clear hw4
  clear t0 t1 t2 t3 t4 t5 tf0 tf1 tf2 tf3 tf4 tf5 tl
  have t0 := S4.out.t.cell 0
  have t1 := S4.out.t.cell 1
  have t2 := S4.out.t.cell 2
  have t3 := S4.out.t.cell 3
  have t4 := S4.out.t.cell 4
  have t5 := S4.out.t.cell 5
  simp at t0 t1 t2 t3 t4 t5
  have r0 := S4.out.z.cell 0
  have r1 := S4.out.z.cell 1
  have r2 := S4.out.z.cell 2
  have r3 := S4.out.z.cell 3
  have r4 := S4.out.z.cell 4
  have r5 := S4.out.z.cell 5
  have rf0 := S4.out.z.frozen 0
  have rf1 := S4.out.z.frozen 1
  have rf2 := S4.out.z.frozen 2
  have rf3 := S4.out.z.frozen 3
  have rf4 := S4.out.z.frozen 4
  have rf5 := S4.out.z.frozen 5
  have rl := S4.out.z.lt
  simp at r0 r1 r2 r3 r4 r5
  go_wp2
  have F := S4.out.fin (.string OP) (.string ⟨#[]⟩) (.slice (some ⟨w1.heap.size, 0, none⟩) 1 1) (.slice AR2 mR2 cR2) (.slice none 0 0) (.int .i64 a)
  have q0 := F.blk.cell 0
  have q1 := F.blk.cell 1
  have q2 := F.blk.cell 2
  have q3 := F.blk.cell 3
  have q4 := F.blk.cell 4
  have q5 := F.blk.cell 5
  simp at q0 q1 q2 q3 q4 q5
  rw [HRes.out]
  exact bodyPost_ret (v := stV OP ⟨#[]⟩ (.slice (some ⟨w1.heap.size, 0, none⟩) 1 1) (.slice AR2 mR2 cR2) (.slice none 0 0) a) (by simp [results, Tryz.results82, go_sem, q0, q1, q2, q3, q4, q5]) rfl ⟨nL + 1 + nR2, _, _, _, _, _, _, _, _, _, rfl, F.par, F.pd, HA.out, (X4.out.fin _ _ _ _ _ _).le (Nat.le_add_right _ _), (R4.out.fin _ _ _ _ _ _).le (Nat.le_add_left _ _), by rw [Nat.add_right_comm]; exact str_nil⟩
set_option maxHeartbeats 6400000 in
set_option maxRecDepth 100000 in
theorem choice_any (op : Bs) (a : Int) (ha : In64 a) {blk : PS → PS × List St} (hblk : BlkC B b len M k blk) (hbl : ∀ s, (blk s).1.ts.length ≤ s.ts.length) (hk : KOK k s) (h : Par B b len M k 0 s w) : Calls Tryz.prog 81 #[.pointer (some ⟨b, 0, none⟩), stV (bA op) ⟨#[]⟩ (.slice none 0 0) (.slice none 0 0) (.slice none 0 0) a] w (RetS B b len M k (choiceS len blk op a s) w) := by
  have hk1 := kok_len hk (exF_len (len := len) (8 * s.ts.length + 7) (.parts 1) 0 s)
  obtain ⟨r, hr⟩ : ∃ q, q = loopS len blk op a s := ⟨_, rfl⟩
  have HLp : Hid (∀ w, Par B b len M k 0 s w → Calls Tryz.prog 82 #[.pointer (some ⟨b, 0, none⟩), stV (bA op) ⟨#[]⟩ (.slice none 0 0) (.slice none 0 0) (.slice none 0 0) a] w (RetS B b len M k r w)) := Lib.hid fun w h => by rw [hr]; exact loop_any op a ha hblk hk1 h
  have hl1 : r.1.ts.length ≤ s.ts.length := by rw [hr]; exact Nat.le_trans (hbl _) (exF_len _ _ _ _)
  obtain ⟨r3, hr3⟩ : ∃ q, q = blk (takeF r.1) := ⟨_, rfl⟩
  have HBk : Hid (∀ w, Par B b len M k 0 (takeF r.1) w → Calls Tryz.prog 52 #[.pointer (some ⟨b, 0, none⟩)] w (RetB B b len M k r3 w)) := Lib.hid fun w h => by rw [hr3]; exact hblk _ _ h (kok_len hk (by rw [take_len]; omega))
  obtain ⟨bi, hbi⟩ : ∃ q, q = isF len tElse r.1 := ⟨_, rfl⟩
  have HRes : Hid (choiceS len blk op a s = if bi then (r3.1, .mk r.2.op r.2.nm r.2.e r.2.A r3.2 r.2.a) else r) := Lib.hid (by rw [hbi, hr3, hr]; rfl)
  have HSk : Hid (∀ w, Par B b len M k 0 r.1 w → Calls Tryz.prog 87 #[.pointer (some ⟨b, 0, none⟩), .string ⟨#[101, 108, 115, 101]⟩] w (RetP B b len M k 0 (.bool bi) (if bi then takeF r.1 else r.1) w)) := Lib.hid fun w h => by
    have := skip_any tElse h
    unfold skipF at this
    rw [← hbi] at this
    exact this
  obtain ⟨OP, hOP⟩ : ∃ q, q = bA op := ⟨_, rfl⟩
  rw [← hOP] at HLp ⊢
  obtain ⟨W0, hW0⟩ : ∃ W0, W0 = (w.alloc (.cells #[.string OP, .string ⟨#[]⟩, .slice none 0 0, .slice none 0 0, .slice none 0 0, .int .i64 a] 116)).alloc (.cells z6 116) := ⟨_, rfl⟩
  have S0 : Hid (SM B b len M k w #[.string OP, .string ⟨#[]⟩, .slice none 0 0, .slice none 0 0, .slice none 0 0, .int .i64 a] s W0) := Lib.hid (by rw [hW0]; exact SM.new h _)
  have HW0 := Lib.hid hW0
  clear hOP hr ha hbi hr3 hk hblk hbl hk1 hl1
  clear hW0 h
  go_enter Tryz.func81, Tryz.ntmps81
  go_upto_region 1 with fail
  rw [← HW0.out]
  have t0 := S0.out.t.cell 0
  have t1 := S0.out.t.cell 1
  have t2 := S0.out.t.cell 2
  have t3 := S0.out.t.cell 3
  have t4 := S0.out.t.cell 4
  have t5 := S0.out.t.cell 5
  have tf0 := S0.out.t.frozen 0
  have tf1 := S0.out.t.frozen 1
  have tf2 := S0.out.t.frozen 2
  have tf3 := S0.out.t.frozen 3
  have tf4 := S0.out.t.frozen 4
  have tf5 := S0.out.t.frozen 5
  have tl := S0.out.t.lt
  simp at t0 t1 t2 t3 t4 t5
  go_upto_region 2 with (go_at_call 82; have HY := HLp.out _ S0.out.par; (with_reducible refine HY.mono ?_); clear HY; rintro e w1 ⟨nf, Af, mf, cf, A2f, m2f, c2f, A3f, m3f, c3f, rfl, hp, hd, hi, h1, h2, h3⟩; have S1 := Lib.hid (S0.out.step hp hd); have Xf : Hid (ExR (NewR w w1) nf w1 _ (.slice Af mf cf)) := Lib.hid (h1.wide (fun q hq => ⟨Nat.le_trans S0.out.size hq.1, hq.2⟩)); have Yf : Hid (StR (NewR w w1) nf w1 _ (.slice A2f m2f c2f)) := Lib.hid (h2.wide (fun q hq => ⟨Nat.le_trans S0.out.size hq.1, hq.2⟩)); have Zf : Hid (StR (NewR w w1) nf w1 _ (.slice A3f m3f c3f)) := Lib.hid (h3.wide (fun q hq => ⟨Nat.le_trans S0.out.size hq.1, hq.2⟩)); have If := Lib.hid hi; have Hf := Lib.hid hd; have u0 := S1.out.t.cell 0; have u1 := S1.out.t.cell 1; have u2 := S1.out.t.cell 2; have u3 := S1.out.t.cell 3; have u4 := S1.out.t.cell 4; have u5 := S1.out.t.cell 5; have uf0 := S1.out.t.frozen 0; have uf1 := S1.out.t.frozen 1; have uf2 := S1.out.t.frozen 2; have uf3 := S1.out.t.frozen 3; have uf4 := S1.out.t.frozen 4; have uf5 := S1.out.t.frozen 5; have ul := S1.out.t.lt; simp at u0 u1 u2 u3 u4 u5; clear hp hd hi h1 h2 h3)
  obtain ⟨s1, x⟩ := r
  obtain ⟨w2, hw2⟩ : ∃ q, q = ((((((w1.setCell ⟨w.heap.size, 0, none⟩ (.string x.op)).setCell ⟨w.heap.size, 1, none⟩ (.string x.nm)).setCell ⟨w.heap.size, 2, none⟩ (.slice Af mf cf)).setCell ⟨w.heap.size, 3, none⟩ (.slice A2f m2f c2f)).setCell ⟨w.heap.size, 4, none⟩ (.slice A3f m3f c3f)).setCell ⟨w.heap.size, 5, none⟩ (.int .i64 x.a)) := ⟨_, rfl⟩
  have S2 : Hid (SM B b len M k w #[.string x.op, .string x.nm, .slice Af mf cf, .slice A2f m2f c2f, .slice A3f m3f c3f, .int .i64 x.a] s1 w2) := Lib.hid (by rw [hw2]; exact ((((((S1.out.set 0 (.string x.op)).set 1 (.string x.nm)).set 2 (.slice Af mf cf)).set 3 (.slice A2f m2f c2f)).set 4 (.slice A3f m3f c3f)).set 5 (.int .i64 x.a)))
  have X2 : Hid (ExR (NewR w w2) nf w2 x.e (.slice Af mf cf)) := Lib.hid (by rw [hw2]; exact ((((((Xf.out.new_set 0 (.string x.op)).new_set 1 (.string x.nm)).new_set 2 (.slice Af mf cf)).new_set 3 (.slice A2f m2f c2f)).new_set 4 (.slice A3f m3f c3f)).new_set 5 (.int .i64 x.a)))
  have Y2 : Hid (StR (NewR w w2) nf w2 x.A (.slice A2f m2f c2f)) := Lib.hid (by rw [hw2]; exact ((((((Yf.out.new_set 0 (.string x.op)).new_set 1 (.string x.nm)).new_set 2 (.slice Af mf cf)).new_set 3 (.slice A2f m2f c2f)).new_set 4 (.slice A3f m3f c3f)).new_set 5 (.int .i64 x.a)))
  have Z2 : Hid (StR (NewR w w2) nf w2 x.B (.slice A3f m3f c3f)) := Lib.hid (by rw [hw2]; exact ((((((Zf.out.new_set 0 (.string x.op)).new_set 1 (.string x.nm)).new_set 2 (.slice Af mf cf)).new_set 3 (.slice A2f m2f c2f)).new_set 4 (.slice A3f m3f c3f)).new_set 5 (.int .i64 x.a)))
  rw [← hw2]
  clear hw2
  clear t0 t1 t2 t3 t4 t5 tf0 tf1 tf2 tf3 tf4 tf5 tl
  clear u0 u1 u2 u3 u4 u5 uf0 uf1 uf2 uf3 uf4 uf5 ul
  cases bi
  · go_wp2_with (go_at_call 87; have HY := HSk.out _ S2.out.par; (with_reducible refine HY.mono ?_); clear HY; rintro e w3 ⟨rfl, hp, hd⟩; have S3 := Lib.hid (S2.out.step hp hd); have X3 := Lib.hid (X2.out.new_pd hd S0.out.hb); have Y3 := Lib.hid (Y2.out.new_pd hd S0.out.hb); have Z3 := Lib.hid (Z2.out.new_pd hd S0.out.hb); have t0 := S3.out.t.cell 0; have t1 := S3.out.t.cell 1; have t2 := S3.out.t.cell 2; have t3 := S3.out.t.cell 3; have t4 := S3.out.t.cell 4; have t5 := S3.out.t.cell 5; simp at t0 t1 t2 t3 t4 t5; have r0 := S3.out.z.cell 0; have r1 := S3.out.z.cell 1; have r2 := S3.out.z.cell 2; have r3 := S3.out.z.cell 3; have r4 := S3.out.z.cell 4; have r5 := S3.out.z.cell 5; have rf0 := S3.out.z.frozen 0; have rf1 := S3.out.z.frozen 1; have rf2 := S3.out.z.frozen 2; have rf3 := S3.out.z.frozen 3; have rf4 := S3.out.z.frozen 4; have rf5 := S3.out.z.frozen 5; have rl := S3.out.z.lt; simp at r0 r1 r2 r3 r4 r5; clear hp hd)
    have F := S3.out.fin (.string x.op) (.string x.nm) (.slice Af mf cf) (.slice A2f m2f c2f) (.slice A3f m3f c3f) (.int .i64 x.a)
    have q0 := F.blk.cell 0
    have q1 := F.blk.cell 1
    have q2 := F.blk.cell 2
    have q3 := F.blk.cell 3
    have q4 := F.blk.cell 4
    have q5 := F.blk.cell 5
    simp at q0 q1 q2 q3 q4 q5
    rw [HRes.out]
    exact bodyPost_ret (v := stV x.op x.nm (.slice Af mf cf) (.slice A2f m2f c2f) (.slice A3f m3f c3f) x.a) (by simp [results, Tryz.results81, go_sem, q0, q1, q2, q3, q4, q5]) rfl ⟨nf, _, _, _, _, _, _, _, _, _, rfl, F.par, F.pd, If.out, X3.out.fin _ _ _ _ _ _, Y3.out.fin _ _ _ _ _ _, Z3.out.fin _ _ _ _ _ _⟩
  · go_upto_region 3 with (go_at_call 87; have HY := HSk.out _ S2.out.par; (with_reducible refine HY.mono ?_); clear HY; rintro e w3 ⟨rfl, hp, hd⟩; have S3 := Lib.hid (S2.out.step hp hd); have X3 := Lib.hid (X2.out.new_pd hd S0.out.hb); have Y3 := Lib.hid (Y2.out.new_pd hd S0.out.hb); have Z3 := Lib.hid (Z2.out.new_pd hd S0.out.hb); clear hp hd)
    go_upto_region 4 with (go_at_call 52; have HY := HBk.out _ S3.out.par; (with_reducible refine HY.mono ?_); clear HY; rintro e w4 ⟨nR3, AR3, mR3, cR3, rfl, hp, hd, hr⟩; have S4 := Lib.hid (S3.out.step hp hd); have R3 : Hid (StR (NewR w w4) nR3 w4 _ (.slice AR3 mR3 cR3)) := Lib.hid (hr.wide (fun q hq => ⟨Nat.le_trans S3.out.size hq.1, hq.2⟩)); have H4 := Lib.hid hd; have t0 := S4.out.t.cell 0; have t1 := S4.out.t.cell 1; have t2 := S4.out.t.cell 2; have t3 := S4.out.t.cell 3; have t4 := S4.out.t.cell 4; have t5 := S4.out.t.cell 5; have tf0 := S4.out.t.frozen 0; have tf1 := S4.out.t.frozen 1; have tf2 := S4.out.t.frozen 2; have tf3 := S4.out.t.frozen 3; have tf4 := S4.out.t.frozen 4; have tf5 := S4.out.t.frozen 5; have tl := S4.out.t.lt; simp at t0 t1 t2 t3 t4 t5; clear hp hd hr)
    have X4 := Lib.hid (X3.out.new_pd H4.out S0.out.hb)
    have Y4 := Lib.hid (Y3.out.new_pd H4.out S0.out.hb)
    obtain ⟨w5, hw5⟩ : ∃ q, q = w4.setCell ⟨w.heap.size, 4, none⟩ (.slice AR3 mR3 cR3) := ⟨_, rfl⟩
    have S5 : Hid (SM B b len M k w #[.string x.op, .string x.nm, .slice Af mf cf, .slice A2f m2f c2f, .slice AR3 mR3 cR3, .int .i64 x.a] r3.1 w5) := Lib.hid (by rw [hw5]; exact S4.out.set 4 _)
    have X5 : Hid (ExR (NewR w w5) nf w5 x.e (.slice Af mf cf)) := Lib.hid (by rw [hw5]; exact X4.out.new_set 4 _)
    have Y5 : Hid (StR (NewR w w5) nf w5 x.A (.slice A2f m2f c2f)) := Lib.hid (by rw [hw5]; exact Y4.out.new_set 4 _)
    have R5 : Hid (StR (NewR w w5) nR3 w5 r3.2 (.slice AR3 mR3 cR3)) := Lib.hid (by rw [hw5]; exact R3.out.new_set 4 _)
    rw [← hw5]
    clear hw5
    clear t0 t1 t2 t3 t4 t5 tf0 tf1 tf2 tf3 tf4 tf5 tl
    have t0 := S5.out.t.cell 0
    have t1 := S5.out.t.cell 1
    have t2 := S5.out.t.cell 2
    have t3 := S5.out.t.cell 3
    have t4 := S5.out.t.cell 4
    have t5 := S5.out.t.cell 5
    simp at t0 t1 t2 t3 t4 t5
    have r0 := S5.out.z.cell 0
    have r1 := S5.out.z.cell 1
    have r2 := S5.out.z.cell 2
    have r3 := S5.out.z.cell 3
    have r4 := S5.out.z.cell 4
    have r5 := S5.out.z.cell 5
    have rf0 := S5.out.z.frozen 0
    have rf1 := S5.out.z.frozen 1
    have rf2 := S5.out.z.frozen 2
    have rf3 := S5.out.z.frozen 3
    have rf4 := S5.out.z.frozen 4
    have rf5 := S5.out.z.frozen 5
    have rl := S5.out.z.lt
    simp at r0 r1 r2 r3 r4 r5
    go_wp2
    have F := S5.out.fin (.string x.op) (.string x.nm) (.slice Af mf cf) (.slice A2f m2f c2f) (.slice AR3 mR3 cR3) (.int .i64 x.a)
    have q0 := F.blk.cell 0
    have q1 := F.blk.cell 1
    have q2 := F.blk.cell 2
    have q3 := F.blk.cell 3
    have q4 := F.blk.cell 4
    have q5 := F.blk.cell 5
    simp at q0 q1 q2 q3 q4 q5
    rw [HRes.out]
    exact bodyPost_ret (v := stV x.op x.nm (.slice Af mf cf) (.slice A2f m2f c2f) (.slice AR3 mR3 cR3) x.a) (by simp [results, Tryz.results81, go_sem, q0, q1, q2, q3, q4, q5]) rfl ⟨nf + nR3, _, _, _, _, _, _, _, _, _, rfl, F.par, F.pd, If.out, (X5.out.fin _ _ _ _ _ _).le (Nat.le_add_right _ _), (Y5.out.fin _ _ _ _ _ _).le (Nat.le_add_right _ _), (R5.out.fin _ _ _ _ _ _).le (Nat.le_add_left _ _)⟩
end
end Go.Proofs.YteaongdlbleehaaGreatDoor

/- The parse layer: put and input. -/
namespace Go.Proofs.YteaongdlbleehaaGreatDoor
open Go.RowKit
section
variable {B b len k n : Nat} {M : Value} {s : PS} {w : World}
set_option maxHeartbeats 6400000 in
set_option maxRecDepth 100000 in
theorem put_any (OP : ByteArray) (nm : Bs) (a : Int) (ha : In64 a) (h : Par B b len M k 0 s w) : Calls Tryz.prog 108 #[.pointer (some ⟨b, 0, none⟩), stV OP (bA nm) (.slice none 0 0) (.slice none 0 0) (.slice none 0 0) a] w (RetS B b len M k (putS len nm a s) w) := by
  obtain ⟨NM, hNM⟩ : ∃ q, q = bA nm := ⟨_, rfl⟩
  rw [← hNM]
  have HA := Lib.hid ha
  obtain ⟨r, hr⟩ : ∃ q, q = exE len s := ⟨_, rfl⟩
  have HEx : Hid (∀ w, Par B b len M k 0 s w → Calls Tryz.prog 40 #[.pointer (some ⟨b, 0, none⟩)] w (RetX B b len M k 0 r w)) := Lib.hid fun w h => by rw [hr]; exact exprE_any h
  obtain ⟨p1, hp1⟩ : ∃ q, q = expF len [93] r.1 := ⟨_, rfl⟩
  have HX1 : Hid (∀ w, Par B b len M k 0 r.1 w → Calls Tryz.prog 51 #[.pointer (some ⟨b, 0, none⟩), .string ⟨#[93]⟩] w (RetP B b len M k 0 (.tuple #[]) p1 w)) := Lib.hid fun w h => by rw [hp1]; exact expect_any [93] h
  obtain ⟨p2, hp2⟩ : ∃ q, q = expF len [61] p1 := ⟨_, rfl⟩
  have HX2 : Hid (∀ w, Par B b len M k 0 p1 w → Calls Tryz.prog 51 #[.pointer (some ⟨b, 0, none⟩), .string ⟨#[61]⟩] w (RetP B b len M k 0 (.tuple #[]) p2 w)) := Lib.hid fun w h => by rw [hp2]; exact expect_any [61] h
  obtain ⟨r2, hr2⟩ : ∃ q, q = exE len p2 := ⟨_, rfl⟩
  have HEy : Hid (∀ w, Par B b len M k 0 p2 w → Calls Tryz.prog 40 #[.pointer (some ⟨b, 0, none⟩)] w (RetX B b len M k 0 r2 w)) := Lib.hid fun w h => by rw [hr2]; exact exprE_any h
  have HRes : Hid (putS len nm a s = (expF len [59] r2.1, .mk ⟨#[112, 117, 116]⟩ NM [r.2, r2.2] [] [] a)) := Lib.hid (by unfold putS; rw [← hr, ← hp1, ← hp2, ← hr2, ← hNM]; rfl)
  obtain ⟨W0, hW0⟩ : ∃ W0, W0 = (w.alloc (.cells #[.string OP, .string NM, .slice none 0 0, .slice none 0 0, .slice none 0 0, .int .i64 a] 116)).alloc (.cells z6 116) := ⟨_, rfl⟩
  have S0 : Hid (SM B b len M k w #[.string OP, .string NM, .slice none 0 0, .slice none 0 0, .slice none 0 0, .int .i64 a] s W0) := Lib.hid (by rw [hW0]; exact SM.new h _)
  have HW0 := Lib.hid hW0
  clear hNM ha hr hp1 hp2 hr2
  clear hW0 h
  go_enter Tryz.func108, Tryz.ntmps108
  go_upto_region 1 with fail
  rw [← HW0.out]
  obtain ⟨s1, y⟩ := r
  obtain ⟨s2, z⟩ := r2
  go_upto_region 2 with (go_at_call 40; have HY := HEx.out _ S0.out.par; (with_reducible refine HY.mono ?_); clear HY; rintro e w1 ⟨nL, AL, mL, cL, rfl, hp, hd, hi1, hi2, hr⟩; have S1 := Lib.hid (S0.out.step hp hd); have R1 : Hid (ExR (NewR w w1) nL w1 _ (.slice AL mL cL)) := Lib.hid (hr.wide (fun q hq => ⟨Nat.le_trans S0.out.size hq.1, hq.2⟩)); have I1 := Lib.hid (And.intro hi1 hi2); have H1 := Lib.hid hd; clear hp hd hi1 hi2 hr)
  obtain ⟨W2, hW2⟩ : ∃ q, q = w1.alloc (.cells #[.string y.op, .string y.nm, .int .i64 y.n, .slice AL mL cL, .int .i64 y.a] 52) := ⟨_, rfl⟩
  have E2 : Hid (Below w1.heap.size w1 W2) := Lib.hid (by rw [hW2]; exact (Below.refl _ _).alloc (Nat.le_refl _) _)
  have S2 := Lib.hid (S1.out.below E2.out)
  have T2 : Hid (Blk W2 w1.heap.size 52 #[.string y.op, .string y.nm, .int .i64 y.n, .slice AL mL cL, .int .i64 y.a]) := Lib.hid (by rw [hW2]; exact Blk.new w1 _ _)
  have R2 := Lib.hid (R1.out.new_below E2.out)
  have HT : Hid (b ≠ w1.heap.size ∧ w.heap.size ≠ w1.heap.size ∧ w.heap.size + 2 ≤ w1.heap.size) := Lib.hid ⟨Nat.ne_of_lt S1.out.par.lt, Nat.ne_of_lt S1.out.t.lt, S1.out.size⟩
  rw [← hW2]
  clear hW2
  obtain ⟨g5, hg5⟩ : ∃ q, q = w1.heap.size := ⟨_, rfl⟩
  rw [← hg5] at T2 HT ⊢
  clear hg5
  go_upto_region 3 with (go_at_call 51; have HY := HX1.out _ S2.out.par; (with_reducible refine HY.mono ?_); clear HY; rintro e w3 ⟨rfl, hp, hd⟩; have S3 := Lib.hid (S2.out.step hp hd); have H3 := Lib.hid hd; have T3 := Lib.hid (hd.blk T2.out HT.out.1.symm); have R3 := Lib.hid (R2.out.new_pd hd S0.out.hb); clear hp hd)
  go_upto_region 4 with (go_at_call 51; have HY := HX2.out _ S3.out.par; (with_reducible refine HY.mono ?_); clear HY; rintro e w4 ⟨rfl, hp, hd⟩; have S4 := Lib.hid (S3.out.step hp hd); have H4 := Lib.hid hd; have T4 := Lib.hid (hd.blk T3.out HT.out.1.symm); have R4 := Lib.hid (R3.out.new_pd hd S0.out.hb); clear hp hd)
  have SD : Hid (SM B b len M k w #[.string OP, .string NM, .slice none 0 0, .slice none 0 0, .slice none 0 0, .int .i64 a] p2 w4.drew) := Lib.hid (S4.out.below (Below.refl _ _).drew)
  have TD : Hid (Blk w4.drew g5 52 #[.string y.op, .string y.nm, .int .i64 y.n, .slice AL mL cL, .int .i64 y.a]) := Lib.hid T4.out
  have RD := Lib.hid (R4.out.new_below (Below.refl w4.heap.size w4).drew)
  have HS5 : Hid (∀ w', Blk w' g5 52 #[.string y.op, .string y.nm, .int .i64 y.n, .slice AL mL cL, .int .i64 y.a] → w'.cell? ⟨g5, 0, none⟩ = some (.string y.op) ∧ w'.cell? ⟨g5, 1, none⟩ = some (.string y.nm) ∧ w'.cell? ⟨g5, 2, none⟩ = some (.int .i64 y.n) ∧ w'.cell? ⟨g5, 3, none⟩ = some (.slice AL mL cL) ∧ w'.cell? ⟨g5, 4, none⟩ = some (.int .i64 y.a)) := Lib.hid fun w' h => ⟨h.cell 0, h.cell 1, h.cell 2, h.cell 3, h.cell 4⟩
  have KS0 := Lib.hid (HS5.out _ TD.out)
  go_region_held3 (fun w' => w'.cell? ⟨g5, 0, none⟩ = some (.string y.op) ∧ w'.cell? ⟨g5, 1, none⟩ = some (.string y.nm) ∧ w'.cell? ⟨g5, 2, none⟩ = some (.int .i64 y.n) ∧ w'.cell? ⟨g5, 3, none⟩ = some (.slice AL mL cL) ∧ w'.cell? ⟨g5, 4, none⟩ = some (.int .i64 y.a))
    (first | (with_reducible exact KS0.out) | (with_reducible exact KS1.out) | (with_reducible exact KS2.out) | (with_reducible exact KS3.out) | (with_reducible exact KS4.out) | (with_reducible exact KS5.out))
    (first
    | (go_at_call 40; have HY := HEy.out _ SD.out.par; (with_reducible refine HY.mono ?_); clear HY; rintro e w5 ⟨nN, AN, mN, cN, rfl, hp, hd, hi1, hi2, hr⟩; have S5 := Lib.hid (SD.out.step hp hd); have T5 := Lib.hid (hd.blk TD.out HT.out.1.symm); have RA := Lib.hid (RD.out.new_pd hd S0.out.hb); have RB : Hid (ExR (NewR w w5) nN w5 z.l (.slice AN mN cN)) := Lib.hid (hr.wide (fun q hq => ⟨Nat.le_trans SD.out.size hq.1, hq.2⟩)); have I2 := Lib.hid (And.intro hi1 hi2); have KS1 := Lib.hid (HS5.out _ T5.out); have T6 := Lib.hid (T5.out.far (p := ⟨w.heap.size, 0, none⟩) HT.out.2.1.symm (.string ⟨#[112, 117, 116]⟩)); have KS2 := Lib.hid (HS5.out _ T6.out); have KS3 := Lib.hid (HS5.out _ (T5.out.below ((Below.refl _ _).alloc (Nat.le_refl _) (.cells #[.string y.op, .string y.nm, .int .i64 y.n, .slice AL mL cL, .int .i64 y.a, .string z.op, .string z.nm, .int .i64 z.n, .slice AN mN cN, .int .i64 z.a] 52)) T5.out.lt)); have KS4 := Lib.hid (HS5.out _ (T6.out.below ((Below.refl _ _).alloc (Nat.le_refl _) (.cells #[.string y.op, .string y.nm, .int .i64 y.n, .slice AL mL cL, .int .i64 y.a, .string z.op, .string z.nm, .int .i64 z.n, .slice AN mN cN, .int .i64 z.a] 52)) T6.out.lt)); have T7 := Lib.hid (T6.out.far (p := ⟨w.heap.size, 2, none⟩) HT.out.2.1.symm (.slice (some ⟨w5.heap.size, 0, none⟩) 2 2)); have KS5 := Lib.hid (HS5.out _ (T7.out.below ((Below.refl _ _).alloc (Nat.le_refl _) (.cells #[.string y.op, .string y.nm, .int .i64 y.n, .slice AL mL cL, .int .i64 y.a, .string z.op, .string z.nm, .int .i64 z.n, .slice AN mN cN, .int .i64 z.a] 52)) T7.out.lt)); have t0 := S5.out.t.cell 0; have t1 := S5.out.t.cell 1; have t2 := S5.out.t.cell 2; have t3 := S5.out.t.cell 3; have t4 := S5.out.t.cell 4; have t5 := S5.out.t.cell 5; have tf0 := S5.out.t.frozen 0; have tf1 := S5.out.t.frozen 1; have tf2 := S5.out.t.frozen 2; have tf3 := S5.out.t.frozen 3; have tf4 := S5.out.t.frozen 4; have tf5 := S5.out.t.frozen 5; have tl := S5.out.t.lt; simp at t0 t1 t2 t3 t4 t5; clear hp hd hi1 hi2 hr))
  all_goals go_upto_region 5 with fail
  all_goals (
    obtain ⟨wq, hwq⟩ : ∃ q, q = ((w5.setCell ⟨w.heap.size, 0, none⟩ (.string ⟨#[112, 117, 116]⟩)).setCell ⟨w.heap.size, 2, none⟩ (.slice (some ⟨w5.heap.size, 0, none⟩) 2 2)) := ⟨_, rfl⟩
    have Zq : Hid (wq.heap.size = w5.heap.size) := Lib.hid (by rw [hwq]; simp [World.setCell])
    have Sq : Hid (SM B b len M k w #[.string ⟨#[112, 117, 116]⟩, .string NM, .slice (some ⟨w5.heap.size, 0, none⟩) 2 2, .slice none 0 0, .slice none 0 0, .int .i64 a] s2 wq) := Lib.hid (by rw [hwq]; exact ((S5.out.set 0 (.string ⟨#[112, 117, 116]⟩)).set 2 (.slice (some ⟨w5.heap.size, 0, none⟩) 2 2)))
    have RAq : Hid (ExR (NewR w wq) nL wq y.l (.slice AL mL cL)) := Lib.hid (by rw [hwq]; exact ((RA.out.new_set 0 (.string ⟨#[112, 117, 116]⟩)).new_set 2 (.slice (some ⟨w5.heap.size, 0, none⟩) 2 2)))
    have RBq : Hid (ExR (NewR w wq) nN wq z.l (.slice AN mN cN)) := Lib.hid (by rw [hwq]; exact ((RB.out.new_set 0 (.string ⟨#[112, 117, 116]⟩)).new_set 2 (.slice (some ⟨w5.heap.size, 0, none⟩) 2 2)))
    rw [← hwq]
    clear hwq
    obtain ⟨Wr, hWr⟩ : ∃ q, q = wq.alloc (.cells #[.string y.op, .string y.nm, .int .i64 y.n, .slice AL mL cL, .int .i64 y.a, .string z.op, .string z.nm, .int .i64 z.n, .slice AN mN cN, .int .i64 z.a] 52) := ⟨_, rfl⟩
    have Er : Hid (Below wq.heap.size wq Wr) := Lib.hid (by rw [hWr]; exact (Below.refl _ _).alloc (Nat.le_refl _) _)
    have Sr := Lib.hid (Sq.out.below Er.out)
    have Nr : Hid (Blk Wr w5.heap.size 52 #[.string y.op, .string y.nm, .int .i64 y.n, .slice AL mL cL, .int .i64 y.a, .string z.op, .string z.nm, .int .i64 z.n, .slice AN mN cN, .int .i64 z.a]) := Lib.hid (by rw [hWr, ← Zq.out]; exact Blk.new wq _ _)
    have Xr : Hid (ExR (NewR w Wr) (nL + nN + 1) Wr [y, z] (.slice (some ⟨w5.heap.size, 0, none⟩) 2 2)) := Lib.hid (exr_two Nr.out ⟨S5.out.size, Nr.out.lt⟩ ⟨I1.out.1, I1.out.2, I2.out.1, I2.out.2⟩ ((RAq.out.new_below Er.out).le (Nat.le_add_right _ _)) ((RBq.out.new_below Er.out).le (Nat.le_add_left _ _)))
    rw [← hWr]
    clear hWr t0 t1 t2 t3 t4 t5 tf0 tf1 tf2 tf3 tf4 tf5 tl
    have t0 := Sr.out.t.cell 0
    have t1 := Sr.out.t.cell 1
    have t2 := Sr.out.t.cell 2
    have t3 := Sr.out.t.cell 3
    have t4 := Sr.out.t.cell 4
    have t5 := Sr.out.t.cell 5
    simp at t0 t1 t2 t3 t4 t5
    go_wp2_with (go_at_call 85; have HY := end_any ⟨#[112, 117, 116]⟩ NM (some ⟨w5.heap.size, 0, none⟩) none none 2 2 0 0 0 0 a Sr.out.par; (with_reducible refine HY.mono ?_); clear HY; rintro e w6 ⟨rfl, hp, hd⟩; have S6 := Lib.hid (Sr.out.step hp hd); have H6 := Lib.hid hd; have r0 := S6.out.z.cell 0; have r1 := S6.out.z.cell 1; have r2 := S6.out.z.cell 2; have r3 := S6.out.z.cell 3; have r4 := S6.out.z.cell 4; have r5 := S6.out.z.cell 5; have rf0 := S6.out.z.frozen 0; have rf1 := S6.out.z.frozen 1; have rf2 := S6.out.z.frozen 2; have rf3 := S6.out.z.frozen 3; have rf4 := S6.out.z.frozen 4; have rf5 := S6.out.z.frozen 5; have rl := S6.out.z.lt; simp at r0 r1 r2 r3 r4 r5; clear hp hd)
    have X6 := Lib.hid (Xr.out.new_pd H6.out S0.out.hb)
    have F := S6.out.fin (.string ⟨#[112, 117, 116]⟩) (.string NM) (.slice (some ⟨w5.heap.size, 0, none⟩) 2 2) (.slice none 0 0) (.slice none 0 0) (.int .i64 a)
    have q0 := F.blk.cell 0
    have q1 := F.blk.cell 1
    have q2 := F.blk.cell 2
    have q3 := F.blk.cell 3
    have q4 := F.blk.cell 4
    have q5 := F.blk.cell 5
    simp at q0 q1 q2 q3 q4 q5
    rw [HRes.out]
    exact bodyPost_ret (v := stV ⟨#[112, 117, 116]⟩ NM (.slice (some ⟨w5.heap.size, 0, none⟩) 2 2) (.slice none 0 0) (.slice none 0 0) a) (by simp [results, Tryz.results108, go_sem, q0, q1, q2, q3, q4, q5]) rfl ⟨nL + nN + 1, _, _, _, _, _, _, _, _, _, rfl, F.par, F.pd, HA.out, X6.out.fin _ _ _ _ _ _, str_nil, str_nil⟩
  )
set_option maxHeartbeats 6400000 in
set_option maxRecDepth 100000 in
theorem input_any (OP : ByteArray) (nm : Bs) (a : Int) (ha : In64 a) (h : Par B b len M k 0 s w) : Calls Tryz.prog 109 #[.pointer (some ⟨b, 0, none⟩), stV OP (bA nm) (.slice none 0 0) (.slice none 0 0) (.slice none 0 0) a] w (RetS B b len M k (inputS len nm a s) w) := by
  obtain ⟨NM, hNM⟩ : ∃ q, q = bA nm := ⟨_, rfl⟩
  rw [← hNM]
  have HA := Lib.hid ha
  obtain ⟨bi, hbi⟩ : ∃ q, q = isF len [40] s := ⟨_, rfl⟩
  have HSk : Hid (∀ w, Par B b len M k 0 s w → Calls Tryz.prog 87 #[.pointer (some ⟨b, 0, none⟩), .string ⟨#[40]⟩] w (RetP B b len M k 0 (.bool bi) (if bi then takeF s else s) w)) := Lib.hid fun w h => by
    have := skip_any [40] h
    unfold skipF at this
    rw [← hbi] at this
    exact this
  obtain ⟨r, hr⟩ : ∃ q, q = exE len (takeF s) := ⟨_, rfl⟩
  have HEx : Hid (∀ w, Par B b len M k 0 (takeF s) w → Calls Tryz.prog 40 #[.pointer (some ⟨b, 0, none⟩)] w (RetX B b len M k 0 r w)) := Lib.hid fun w h => by rw [hr]; exact exprE_any h
  obtain ⟨p1, hp1⟩ : ∃ q, q = expF len [44] r.1 := ⟨_, rfl⟩
  have HX1 : Hid (∀ w, Par B b len M k 0 r.1 w → Calls Tryz.prog 51 #[.pointer (some ⟨b, 0, none⟩), .string ⟨#[44]⟩] w (RetP B b len M k 0 (.tuple #[]) p1 w)) := Lib.hid fun w h => by rw [hp1]; exact expect_any [44] h
  obtain ⟨r2, hr2⟩ : ∃ q, q = exE len p1 := ⟨_, rfl⟩
  have HEy : Hid (∀ w, Par B b len M k 0 p1 w → Calls Tryz.prog 40 #[.pointer (some ⟨b, 0, none⟩)] w (RetX B b len M k 0 r2 w)) := Lib.hid fun w h => by rw [hr2]; exact exprE_any h
  obtain ⟨p2, hp2⟩ : ∃ q, q = expF len [41] r2.1 := ⟨_, rfl⟩
  have HX2 : Hid (∀ w, Par B b len M k 0 r2.1 w → Calls Tryz.prog 51 #[.pointer (some ⟨b, 0, none⟩), .string ⟨#[41]⟩] w (RetP B b len M k 0 (.tuple #[]) p2 w)) := Lib.hid fun w h => by rw [hp2]; exact expect_any [41] h
  have HRes : Hid (inputS len nm a s = if bi then (expF len [59] p2, .mk ⟨#[105, 110, 112, 117, 116]⟩ NM [r.2, r2.2] [] [] a) else (expF len [59] s, .mk ⟨#[105, 110, 112, 117, 116]⟩ NM [] [] [] a)) := Lib.hid (by unfold inputS; rw [← hbi, ← hr, ← hp1, ← hr2, ← hp2, ← hNM]; rfl)
  obtain ⟨W0, hW0⟩ : ∃ W0, W0 = (w.alloc (.cells #[.string OP, .string NM, .slice none 0 0, .slice none 0 0, .slice none 0 0, .int .i64 a] 116)).alloc (.cells z6 116) := ⟨_, rfl⟩
  have S0 : Hid (SM B b len M k w #[.string OP, .string NM, .slice none 0 0, .slice none 0 0, .slice none 0 0, .int .i64 a] s W0) := Lib.hid (by rw [hW0]; exact SM.new h _)
  have HW0 := Lib.hid hW0
  clear hNM ha hbi hr hp1 hr2 hp2
  clear hW0 h
  go_enter Tryz.func109, Tryz.ntmps109
  go_upto_region 1 with fail
  rw [← HW0.out]
  have t0 := S0.out.t.cell 0
  have t1 := S0.out.t.cell 1
  have t2 := S0.out.t.cell 2
  have t3 := S0.out.t.cell 3
  have t4 := S0.out.t.cell 4
  have t5 := S0.out.t.cell 5
  have tf0 := S0.out.t.frozen 0
  have tf1 := S0.out.t.frozen 1
  have tf2 := S0.out.t.frozen 2
  have tf3 := S0.out.t.frozen 3
  have tf4 := S0.out.t.frozen 4
  have tf5 := S0.out.t.frozen 5
  have tl := S0.out.t.lt
  simp at t0 t1 t2 t3 t4 t5
  go_upto_region 2 with fail
  obtain ⟨w1, hw1⟩ : ∃ q, q = W0.setCell ⟨w.heap.size, 0, none⟩ (.string ⟨#[105, 110, 112, 117, 116]⟩) := ⟨_, rfl⟩
  have S1 : Hid (SM B b len M k w #[.string ⟨#[105, 110, 112, 117, 116]⟩, .string NM, .slice none 0 0, .slice none 0 0, .slice none 0 0, .int .i64 a] s w1) := Lib.hid (by rw [hw1]; exact S0.out.set 0 _)
  rw [← hw1]
  clear hw1
  clear t0 t1 t2 t3 t4 t5 tf0 tf1 tf2 tf3 tf4 tf5 tl
  obtain ⟨s1, y⟩ := r
  obtain ⟨s2, z⟩ := r2
  cases bi
  · go_upto_region 7 with (go_at_call 87; have HY := HSk.out _ S1.out.par; (with_reducible refine HY.mono ?_); clear HY; rintro e w2 ⟨rfl, hp, hd⟩; have S2 := Lib.hid (S1.out.step hp hd); clear hp hd)
    have t0 := S2.out.t.cell 0
    have t1 := S2.out.t.cell 1
    have t2 := S2.out.t.cell 2
    have t3 := S2.out.t.cell 3
    have t4 := S2.out.t.cell 4
    have t5 := S2.out.t.cell 5
    simp at t0 t1 t2 t3 t4 t5
    go_wp2_with (go_at_call 85; have HY := end_any ⟨#[105, 110, 112, 117, 116]⟩ NM none none none 0 0 0 0 0 0 a S2.out.par; (with_reducible refine HY.mono ?_); clear HY; rintro e w3 ⟨rfl, hp, hd⟩; have S3 := Lib.hid (S2.out.step hp hd); have H3 := Lib.hid hd; have r0 := S3.out.z.cell 0; have r1 := S3.out.z.cell 1; have r2 := S3.out.z.cell 2; have r3 := S3.out.z.cell 3; have r4 := S3.out.z.cell 4; have r5 := S3.out.z.cell 5; have rf0 := S3.out.z.frozen 0; have rf1 := S3.out.z.frozen 1; have rf2 := S3.out.z.frozen 2; have rf3 := S3.out.z.frozen 3; have rf4 := S3.out.z.frozen 4; have rf5 := S3.out.z.frozen 5; have rl := S3.out.z.lt; simp at r0 r1 r2 r3 r4 r5; clear hp hd)
    have F := S3.out.fin (.string ⟨#[105, 110, 112, 117, 116]⟩) (.string NM) (.slice none 0 0) (.slice none 0 0) (.slice none 0 0) (.int .i64 a)
    have q0 := F.blk.cell 0
    have q1 := F.blk.cell 1
    have q2 := F.blk.cell 2
    have q3 := F.blk.cell 3
    have q4 := F.blk.cell 4
    have q5 := F.blk.cell 5
    simp at q0 q1 q2 q3 q4 q5
    rw [HRes.out]
    exact bodyPost_ret (v := stV ⟨#[105, 110, 112, 117, 116]⟩ NM (.slice none 0 0) (.slice none 0 0) (.slice none 0 0) a) (by simp [results, Tryz.results109, go_sem, q0, q1, q2, q3, q4, q5]) rfl ⟨1, _, _, _, _, _, _, _, _, _, rfl, F.par, F.pd, HA.out, exr_nil, str_nil, str_nil⟩
  · go_upto_region 3 with (go_at_call 87; have HY := HSk.out _ S1.out.par; (with_reducible refine HY.mono ?_); clear HY; rintro e w2 ⟨rfl, hp, hd⟩; have S2 := Lib.hid (S1.out.step hp hd); clear hp hd)
    go_upto_region 4 with (go_at_call 40; have HY := HEx.out _ S2.out.par; (with_reducible refine HY.mono ?_); clear HY; rintro e w3 ⟨nL, AL, mL, cL, rfl, hp, hd, hi1, hi2, hr⟩; have S3 := Lib.hid (S2.out.step hp hd); have R1 : Hid (ExR (NewR w w3) nL w3 _ (.slice AL mL cL)) := Lib.hid (hr.wide (fun q hq => ⟨Nat.le_trans S2.out.size hq.1, hq.2⟩)); have I1 := Lib.hid (And.intro hi1 hi2); have H3 := Lib.hid hd; clear hp hd hi1 hi2 hr)
    obtain ⟨WB, hWB⟩ : ∃ q, q = w3.alloc (.cells #[.string y.op, .string y.nm, .int .i64 y.n, .slice AL mL cL, .int .i64 y.a] 52) := ⟨_, rfl⟩
    have EB : Hid (Below w3.heap.size w3 WB) := Lib.hid (by rw [hWB]; exact (Below.refl _ _).alloc (Nat.le_refl _) _)
    have SB := Lib.hid (S3.out.below EB.out)
    have TB : Hid (Blk WB w3.heap.size 52 #[.string y.op, .string y.nm, .int .i64 y.n, .slice AL mL cL, .int .i64 y.a]) := Lib.hid (by rw [hWB]; exact Blk.new w3 _ _)
    have RB0 := Lib.hid (R1.out.new_below EB.out)
    have HT : Hid (b ≠ w3.heap.size ∧ w.heap.size ≠ w3.heap.size ∧ w.heap.size + 2 ≤ w3.heap.size) := Lib.hid ⟨Nat.ne_of_lt S3.out.par.lt, Nat.ne_of_lt S3.out.t.lt, S3.out.size⟩
    rw [← hWB]
    clear hWB
    obtain ⟨g5, hg5⟩ : ∃ q, q = w3.heap.size := ⟨_, rfl⟩
    rw [← hg5] at TB HT ⊢
    clear hg5
    go_upto_region 5 with (go_at_call 51; have HY := HX1.out _ SB.out.par; (with_reducible refine HY.mono ?_); clear HY; rintro e w4 ⟨rfl, hp, hd⟩; have S4 := Lib.hid (SB.out.step hp hd); have H4 := Lib.hid hd; have T4 := Lib.hid (hd.blk TB.out HT.out.1.symm); have R4 := Lib.hid (RB0.out.new_pd hd S0.out.hb); clear hp hd)
    have SD : Hid (SM B b len M k w #[.string ⟨#[105, 110, 112, 117, 116]⟩, .string NM, .slice none 0 0, .slice none 0 0, .slice none 0 0, .int .i64 a] p1 w4.drew) := Lib.hid (S4.out.below (Below.refl _ _).drew)
    have TD : Hid (Blk w4.drew g5 52 #[.string y.op, .string y.nm, .int .i64 y.n, .slice AL mL cL, .int .i64 y.a]) := Lib.hid T4.out
    have RD := Lib.hid (R4.out.new_below (Below.refl w4.heap.size w4).drew)
    have HS5 : Hid (∀ w', Blk w' g5 52 #[.string y.op, .string y.nm, .int .i64 y.n, .slice AL mL cL, .int .i64 y.a] → w'.cell? ⟨g5, 0, none⟩ = some (.string y.op) ∧ w'.cell? ⟨g5, 1, none⟩ = some (.string y.nm) ∧ w'.cell? ⟨g5, 2, none⟩ = some (.int .i64 y.n) ∧ w'.cell? ⟨g5, 3, none⟩ = some (.slice AL mL cL) ∧ w'.cell? ⟨g5, 4, none⟩ = some (.int .i64 y.a)) := Lib.hid fun w' h => ⟨h.cell 0, h.cell 1, h.cell 2, h.cell 3, h.cell 4⟩
    have KS0 := Lib.hid (HS5.out _ TD.out)
    go_region_held3 (fun w' => w'.cell? ⟨g5, 0, none⟩ = some (.string y.op) ∧ w'.cell? ⟨g5, 1, none⟩ = some (.string y.nm) ∧ w'.cell? ⟨g5, 2, none⟩ = some (.int .i64 y.n) ∧ w'.cell? ⟨g5, 3, none⟩ = some (.slice AL mL cL) ∧ w'.cell? ⟨g5, 4, none⟩ = some (.int .i64 y.a))
      (first | (with_reducible exact KS0.out) | (with_reducible exact KS1.out) | (with_reducible exact KS3.out) | (with_reducible exact KS5.out))
      (first
      | (go_at_call 40; have HY := HEy.out _ SD.out.par; (with_reducible refine HY.mono ?_); clear HY; rintro e w5 ⟨nN, AN, mN, cN, rfl, hp, hd, hi1, hi2, hr⟩; have S5 := Lib.hid (SD.out.step hp hd); have T5 := Lib.hid (hd.blk TD.out HT.out.1.symm); have RA := Lib.hid (RD.out.new_pd hd S0.out.hb); have RB : Hid (ExR (NewR w w5) nN w5 z.l (.slice AN mN cN)) := Lib.hid (hr.wide (fun q hq => ⟨Nat.le_trans SD.out.size hq.1, hq.2⟩)); have I2 := Lib.hid (And.intro hi1 hi2); have KS1 := Lib.hid (HS5.out _ T5.out); have KS3 := Lib.hid (HS5.out _ (T5.out.below ((Below.refl _ _).alloc (Nat.le_refl _) (.cells #[.string y.op, .string y.nm, .int .i64 y.n, .slice AL mL cL, .int .i64 y.a, .string z.op, .string z.nm, .int .i64 z.n, .slice AN mN cN, .int .i64 z.a] 52)) T5.out.lt)); have T7 := Lib.hid (T5.out.far (p := ⟨w.heap.size, 2, none⟩) HT.out.2.1.symm (.slice (some ⟨w5.heap.size, 0, none⟩) 2 2)); have KS5 := Lib.hid (HS5.out _ (T7.out.below ((Below.refl _ _).alloc (Nat.le_refl _) (.cells #[.string y.op, .string y.nm, .int .i64 y.n, .slice AL mL cL, .int .i64 y.a, .string z.op, .string z.nm, .int .i64 z.n, .slice AN mN cN, .int .i64 z.a] 52)) T7.out.lt)); have t0 := S5.out.t.cell 0; have t1 := S5.out.t.cell 1; have t2 := S5.out.t.cell 2; have t3 := S5.out.t.cell 3; have t4 := S5.out.t.cell 4; have t5 := S5.out.t.cell 5; have tf0 := S5.out.t.frozen 0; have tf1 := S5.out.t.frozen 1; have tf2 := S5.out.t.frozen 2; have tf3 := S5.out.t.frozen 3; have tf4 := S5.out.t.frozen 4; have tf5 := S5.out.t.frozen 5; have tl := S5.out.t.lt; simp at t0 t1 t2 t3 t4 t5; clear hp hd hi1 hi2 hr))
    all_goals go_upto_region 6 with fail
    all_goals (
      obtain ⟨wq, hwq⟩ : ∃ q, q = (w5.setCell ⟨w.heap.size, 2, none⟩ (.slice (some ⟨w5.heap.size, 0, none⟩) 2 2)) := ⟨_, rfl⟩
      have Zq : Hid (wq.heap.size = w5.heap.size) := Lib.hid (by rw [hwq]; simp [World.setCell])
      have Sq : Hid (SM B b len M k w #[.string ⟨#[105, 110, 112, 117, 116]⟩, .string NM, .slice (some ⟨w5.heap.size, 0, none⟩) 2 2, .slice none 0 0, .slice none 0 0, .int .i64 a] s2 wq) := Lib.hid (by rw [hwq]; exact (S5.out.set 2 (.slice (some ⟨w5.heap.size, 0, none⟩) 2 2)))
      have RAq : Hid (ExR (NewR w wq) nL wq y.l (.slice AL mL cL)) := Lib.hid (by rw [hwq]; exact (RA.out.new_set 2 (.slice (some ⟨w5.heap.size, 0, none⟩) 2 2)))
      have RBq : Hid (ExR (NewR w wq) nN wq z.l (.slice AN mN cN)) := Lib.hid (by rw [hwq]; exact (RB.out.new_set 2 (.slice (some ⟨w5.heap.size, 0, none⟩) 2 2)))
      rw [← hwq]
      clear hwq
      obtain ⟨Wr, hWr⟩ : ∃ q, q = wq.alloc (.cells #[.string y.op, .string y.nm, .int .i64 y.n, .slice AL mL cL, .int .i64 y.a, .string z.op, .string z.nm, .int .i64 z.n, .slice AN mN cN, .int .i64 z.a] 52) := ⟨_, rfl⟩
      have Er : Hid (Below wq.heap.size wq Wr) := Lib.hid (by rw [hWr]; exact (Below.refl _ _).alloc (Nat.le_refl _) _)
      have Sr := Lib.hid (Sq.out.below Er.out)
      have Nr : Hid (Blk Wr w5.heap.size 52 #[.string y.op, .string y.nm, .int .i64 y.n, .slice AL mL cL, .int .i64 y.a, .string z.op, .string z.nm, .int .i64 z.n, .slice AN mN cN, .int .i64 z.a]) := Lib.hid (by rw [hWr, ← Zq.out]; exact Blk.new wq _ _)
      have Xr : Hid (ExR (NewR w Wr) (nL + nN + 1) Wr [y, z] (.slice (some ⟨w5.heap.size, 0, none⟩) 2 2)) := Lib.hid (exr_two Nr.out ⟨S5.out.size, Nr.out.lt⟩ ⟨I1.out.1, I1.out.2, I2.out.1, I2.out.2⟩ ((RAq.out.new_below Er.out).le (Nat.le_add_right _ _)) ((RBq.out.new_below Er.out).le (Nat.le_add_left _ _)))
      rw [← hWr]
      clear hWr t0 t1 t2 t3 t4 t5 tf0 tf1 tf2 tf3 tf4 tf5 tl
      go_upto_region 7 with (go_at_call 51; have HY := HX2.out _ Sr.out.par; (with_reducible refine HY.mono ?_); clear HY; rintro e w6 ⟨rfl, hp, hd⟩; have S6 := Lib.hid (Sr.out.step hp hd); have H6 := Lib.hid hd; clear hp hd)
      have Y6 := Lib.hid (Xr.out.new_pd H6.out S0.out.hb)
      have t0 := S6.out.t.cell 0
      have t1 := S6.out.t.cell 1
      have t2 := S6.out.t.cell 2
      have t3 := S6.out.t.cell 3
      have t4 := S6.out.t.cell 4
      have t5 := S6.out.t.cell 5
      simp at t0 t1 t2 t3 t4 t5
      go_wp2_with (go_at_call 85; have HY := end_any ⟨#[105, 110, 112, 117, 116]⟩ NM (some ⟨w5.heap.size, 0, none⟩) none none 2 2 0 0 0 0 a S6.out.par; (with_reducible refine HY.mono ?_); clear HY; rintro e w7 ⟨rfl, hp, hd⟩; have S7 := Lib.hid (S6.out.step hp hd); have H7 := Lib.hid hd; have r0 := S7.out.z.cell 0; have r1 := S7.out.z.cell 1; have r2 := S7.out.z.cell 2; have r3 := S7.out.z.cell 3; have r4 := S7.out.z.cell 4; have r5 := S7.out.z.cell 5; have rf0 := S7.out.z.frozen 0; have rf1 := S7.out.z.frozen 1; have rf2 := S7.out.z.frozen 2; have rf3 := S7.out.z.frozen 3; have rf4 := S7.out.z.frozen 4; have rf5 := S7.out.z.frozen 5; have rl := S7.out.z.lt; simp at r0 r1 r2 r3 r4 r5; clear hp hd)
      have X6 := Lib.hid (Y6.out.new_pd H7.out S0.out.hb)
      have F := S7.out.fin (.string ⟨#[105, 110, 112, 117, 116]⟩) (.string NM) (.slice (some ⟨w5.heap.size, 0, none⟩) 2 2) (.slice none 0 0) (.slice none 0 0) (.int .i64 a)
      have q0 := F.blk.cell 0
      have q1 := F.blk.cell 1
      have q2 := F.blk.cell 2
      have q3 := F.blk.cell 3
      have q4 := F.blk.cell 4
      have q5 := F.blk.cell 5
      simp at q0 q1 q2 q3 q4 q5
      rw [HRes.out]
      exact bodyPost_ret (v := stV ⟨#[105, 110, 112, 117, 116]⟩ NM (.slice (some ⟨w5.heap.size, 0, none⟩) 2 2) (.slice none 0 0) (.slice none 0 0) a) (by simp [results, Tryz.results109, go_sem, q0, q1, q2, q3, q4, q5]) rfl ⟨nL + nN + 1, _, _, _, _, _, _, _, _, _, rfl, F.par, F.pd, HA.out, X6.out.fin _ _ _ _ _ _, str_nil, str_nil⟩
    )
end
end Go.Proofs.YteaongdlbleehaaGreatDoor

/- The parse layer: change. -/
namespace Go.Proofs.YteaongdlbleehaaGreatDoor
open Go.RowKit
section
variable {B b len k n : Nat} {M : Value} {s : PS} {w : World}
set_option maxHeartbeats 6400000 in
set_option maxRecDepth 100000 in
theorem change_any (OP : ByteArray) (nm : Bs) (a : Int) (ha : In64 a) (h : Par B b len M k 0 s w) : Calls Tryz.prog 80 #[.pointer (some ⟨b, 0, none⟩), stV OP (bA nm) (.slice none 0 0) (.slice none 0 0) (.slice none 0 0) a] w (RetS B b len M k (changeS len nm a s) w) := by
  obtain ⟨NM, hNM⟩ : ∃ q, q = bA nm := ⟨_, rfl⟩
  rw [← hNM]
  have HA := Lib.hid ha
  obtain ⟨bi, hbi⟩ : ∃ q, q = isF len [91] s := ⟨_, rfl⟩
  have HS1 : Hid (∀ w, Par B b len M k 0 s w → Calls Tryz.prog 87 #[.pointer (some ⟨b, 0, none⟩), .string ⟨#[91]⟩] w (RetP B b len M k 0 (.bool bi) (if bi then takeF s else s) w)) := Lib.hid fun w h => by
    have := skip_any [91] h
    unfold skipF at this
    rw [← hbi] at this
    exact this
  obtain ⟨rp, hrp⟩ : ∃ q, q = putS len nm a (takeF s) := ⟨_, rfl⟩
  have HPut : Hid (∀ w, Par B b len M k 0 (takeF s) w → Calls Tryz.prog 108 #[.pointer (some ⟨b, 0, none⟩), stV OP NM (.slice none 0 0) (.slice none 0 0) (.slice none 0 0) a] w (RetS B b len M k rp w)) := Lib.hid fun w h => by rw [hrp, hNM]; exact put_any OP nm a ha h
  obtain ⟨p1, hp1⟩ : ∃ q, q = expF len [61] s := ⟨_, rfl⟩
  have HX1 : Hid (∀ w, Par B b len M k 0 s w → Calls Tryz.prog 51 #[.pointer (some ⟨b, 0, none⟩), .string ⟨#[61]⟩] w (RetP B b len M k 0 (.tuple #[]) p1 w)) := Lib.hid fun w h => by rw [hp1]; exact expect_any [61] h
  obtain ⟨bj, hbj⟩ : ∃ q, q = isF len sInput p1 := ⟨_, rfl⟩
  have HS2 : Hid (∀ w, Par B b len M k 0 p1 w → Calls Tryz.prog 87 #[.pointer (some ⟨b, 0, none⟩), .string ⟨#[105, 110, 112, 117, 116]⟩] w (RetP B b len M k 0 (.bool bj) (if bj then takeF p1 else p1) w)) := Lib.hid fun w h => by
    have := skip_any sInput h
    unfold skipF at this
    rw [← hbj] at this
    exact this
  obtain ⟨ri, hri⟩ : ∃ q, q = inputS len nm a (takeF p1) := ⟨_, rfl⟩
  have HIn : Hid (∀ w, Par B b len M k 0 (takeF p1) w → Calls Tryz.prog 109 #[.pointer (some ⟨b, 0, none⟩), stV OP NM (.slice none 0 0) (.slice none 0 0) (.slice none 0 0) a] w (RetS B b len M k ri w)) := Lib.hid fun w h => by rw [hri, hNM]; exact input_any OP nm a ha h
  obtain ⟨r, hr⟩ : ∃ q, q = exE len p1 := ⟨_, rfl⟩
  have HEx : Hid (∀ w, Par B b len M k 0 p1 w → Calls Tryz.prog 40 #[.pointer (some ⟨b, 0, none⟩)] w (RetX B b len M k 0 r w)) := Lib.hid fun w h => by rw [hr]; exact exprE_any h
  have HRes : Hid (changeS len nm a s = if bi then rp else if bj then ri else (expF len [59] r.1, .mk ⟨#[115, 101, 116]⟩ NM [r.2] [] [] a)) := Lib.hid (by unfold changeS; rw [← hbi, ← hrp, ← hp1, ← hbj, ← hri, ← hr, ← hNM]; rfl)
  obtain ⟨W0, hW0⟩ : ∃ W0, W0 = (w.alloc (.cells #[.string OP, .string NM, .slice none 0 0, .slice none 0 0, .slice none 0 0, .int .i64 a] 116)).alloc (.cells z6 116) := ⟨_, rfl⟩
  have S0 : Hid (SM B b len M k w #[.string OP, .string NM, .slice none 0 0, .slice none 0 0, .slice none 0 0, .int .i64 a] s W0) := Lib.hid (by rw [hW0]; exact SM.new h _)
  have HW0 := Lib.hid hW0
  clear hNM ha hbi hrp hp1 hbj hri hr
  clear hW0 h
  go_enter Tryz.func80, Tryz.ntmps80
  go_upto_region 1 with fail
  rw [← HW0.out]
  cases bi
  · go_upto_region 3 with (go_at_call 87; have HY := HS1.out _ S0.out.par; (with_reducible refine HY.mono ?_); clear HY; rintro e w1 ⟨rfl, hp, hd⟩; have S1 := Lib.hid (S0.out.step hp hd); clear hp hd)
    go_upto_region 4 with (go_at_call 51; have HY := HX1.out _ S1.out.par; (with_reducible refine HY.mono ?_); clear HY; rintro e w2 ⟨rfl, hp, hd⟩; have S2 := Lib.hid (S1.out.step hp hd); have H2 := Lib.hid hd; clear hp hd)
    cases bj
    · go_upto_region 6 with (go_at_call 87; have HY := HS2.out _ S2.out.par; (with_reducible refine HY.mono ?_); clear HY; rintro e w3 ⟨rfl, hp, hd⟩; have S3 := Lib.hid (S2.out.step hp hd); clear hp hd)
      obtain ⟨s5, y⟩ := r
      go_upto_region 7 with (go_at_call 40; have HY := HEx.out _ S3.out.par; (with_reducible refine HY.mono ?_); clear HY; rintro e w5 ⟨nL, AL, mL, cL, rfl, hp, hd, hi1, hi2, hr⟩; have S5 := Lib.hid (S3.out.step hp hd); have R5 : Hid (ExR (NewR w w5) nL w5 _ (.slice AL mL cL)) := Lib.hid (hr.wide (fun q hq => ⟨Nat.le_trans S3.out.size hq.1, hq.2⟩)); have I5 := Lib.hid (And.intro hi1 hi2); have H5 := Lib.hid hd; have t0 := S5.out.t.cell 0; have t1 := S5.out.t.cell 1; have t2 := S5.out.t.cell 2; have t3 := S5.out.t.cell 3; have t4 := S5.out.t.cell 4; have t5 := S5.out.t.cell 5; have tf0 := S5.out.t.frozen 0; have tf1 := S5.out.t.frozen 1; have tf2 := S5.out.t.frozen 2; have tf3 := S5.out.t.frozen 3; have tf4 := S5.out.t.frozen 4; have tf5 := S5.out.t.frozen 5; have tl := S5.out.t.lt; simp at t0 t1 t2 t3 t4 t5; clear hp hd hi1 hi2 hr)
      obtain ⟨wq, hwq⟩ : ∃ q, q = ((w5.setCell ⟨w.heap.size, 0, none⟩ (.string ⟨#[115, 101, 116]⟩)).setCell ⟨w.heap.size, 2, none⟩ (.slice (some ⟨w5.heap.size, 0, none⟩) 1 1)) := ⟨_, rfl⟩
      have Zq : Hid (wq.heap.size = w5.heap.size) := Lib.hid (by rw [hwq]; simp [World.setCell])
      have Sq : Hid (SM B b len M k w #[.string ⟨#[115, 101, 116]⟩, .string NM, .slice (some ⟨w5.heap.size, 0, none⟩) 1 1, .slice none 0 0, .slice none 0 0, .int .i64 a] s5 wq) := Lib.hid (by rw [hwq]; exact ((S5.out.set 0 (.string ⟨#[115, 101, 116]⟩)).set 2 (.slice (some ⟨w5.heap.size, 0, none⟩) 1 1)))
      have Rq : Hid (ExR (NewR w wq) nL wq y.l (.slice AL mL cL)) := Lib.hid (by rw [hwq]; exact ((R5.out.new_set 0 (.string ⟨#[115, 101, 116]⟩)).new_set 2 (.slice (some ⟨w5.heap.size, 0, none⟩) 1 1)))
      rw [← hwq]
      clear hwq
      obtain ⟨Wr, hWr⟩ : ∃ q, q = wq.alloc (.cells #[.string y.op, .string y.nm, .int .i64 y.n, .slice AL mL cL, .int .i64 y.a] 52) := ⟨_, rfl⟩
      have Er : Hid (Below wq.heap.size wq Wr) := Lib.hid (by rw [hWr]; exact (Below.refl _ _).alloc (Nat.le_refl _) _)
      have Sr := Lib.hid (Sq.out.below Er.out)
      have Nr : Hid (Blk Wr w5.heap.size 52 #[.string y.op, .string y.nm, .int .i64 y.n, .slice AL mL cL, .int .i64 y.a]) := Lib.hid (by rw [hWr, ← Zq.out]; exact Blk.new wq _ _)
      have Xr : Hid (ExR (NewR w Wr) (nL + 1) Wr [y] (.slice (some ⟨w5.heap.size, 0, none⟩) 1 1)) := Lib.hid (exr_one Nr.out ⟨S5.out.size, Nr.out.lt⟩ I5.out.1 I5.out.2 (Rq.out.new_below Er.out))
      rw [← hWr]
      clear hWr
      clear t0 t1 t2 t3 t4 t5 tf0 tf1 tf2 tf3 tf4 tf5 tl
      have t0 := Sr.out.t.cell 0
      have t1 := Sr.out.t.cell 1
      have t2 := Sr.out.t.cell 2
      have t3 := Sr.out.t.cell 3
      have t4 := Sr.out.t.cell 4
      have t5 := Sr.out.t.cell 5
      simp at t0 t1 t2 t3 t4 t5
      go_wp2_with (go_at_call 85; have HY := end_any ⟨#[115, 101, 116]⟩ NM (some ⟨w5.heap.size, 0, none⟩) none none 1 1 0 0 0 0 a Sr.out.par; (with_reducible refine HY.mono ?_); clear HY; rintro e w6 ⟨rfl, hp, hd⟩; have S6 := Lib.hid (Sr.out.step hp hd); have H6 := Lib.hid hd; have r0 := S6.out.z.cell 0; have r1 := S6.out.z.cell 1; have r2 := S6.out.z.cell 2; have r3 := S6.out.z.cell 3; have r4 := S6.out.z.cell 4; have r5 := S6.out.z.cell 5; have rf0 := S6.out.z.frozen 0; have rf1 := S6.out.z.frozen 1; have rf2 := S6.out.z.frozen 2; have rf3 := S6.out.z.frozen 3; have rf4 := S6.out.z.frozen 4; have rf5 := S6.out.z.frozen 5; have rl := S6.out.z.lt; simp at r0 r1 r2 r3 r4 r5; clear hp hd)
      have X6 := Lib.hid (Xr.out.new_pd H6.out S0.out.hb)
      have F := S6.out.fin (.string ⟨#[115, 101, 116]⟩) (.string NM) (.slice (some ⟨w5.heap.size, 0, none⟩) 1 1) (.slice none 0 0) (.slice none 0 0) (.int .i64 a)
      have q0 := F.blk.cell 0
      have q1 := F.blk.cell 1
      have q2 := F.blk.cell 2
      have q3 := F.blk.cell 3
      have q4 := F.blk.cell 4
      have q5 := F.blk.cell 5
      simp at q0 q1 q2 q3 q4 q5
      rw [HRes.out]
      exact bodyPost_ret (v := stV ⟨#[115, 101, 116]⟩ NM (.slice (some ⟨w5.heap.size, 0, none⟩) 1 1) (.slice none 0 0) (.slice none 0 0) a) (by simp [results, Tryz.results80, go_sem, q0, q1, q2, q3, q4, q5]) rfl ⟨nL + 1, _, _, _, _, _, _, _, _, _, rfl, F.par, F.pd, HA.out, X6.out.fin _ _ _ _ _ _, str_nil, str_nil⟩
    · go_upto_region 5 with (go_at_call 87; have HY := HS2.out _ S2.out.par; (with_reducible refine HY.mono ?_); clear HY; rintro e w3 ⟨rfl, hp, hd⟩; have S3 := Lib.hid (S2.out.step hp hd); clear hp hd)
      have t0 := S3.out.t.cell 0
      have t1 := S3.out.t.cell 1
      have t2 := S3.out.t.cell 2
      have t3 := S3.out.t.cell 3
      have t4 := S3.out.t.cell 4
      have t5 := S3.out.t.cell 5
      simp at t0 t1 t2 t3 t4 t5
      obtain ⟨s1, x⟩ := ri
      go_wp2_with (go_at_call 109; have HY := HIn.out _ S3.out.par; (with_reducible refine HY.mono ?_); clear HY; rintro e w4 ⟨nf, Af, mf, cf, A2f, m2f, c2f, A3f, m3f, c3f, rfl, hp, hd, hi, h1, h2, h3⟩; have S4 := Lib.hid (S3.out.step hp hd); have Xf : Hid (ExR (NewR w w4) nf w4 _ (.slice Af mf cf)) := Lib.hid (h1.wide (fun q hq => ⟨Nat.le_trans S3.out.size hq.1, hq.2⟩)); have Yf : Hid (StR (NewR w w4) nf w4 _ (.slice A2f m2f c2f)) := Lib.hid (h2.wide (fun q hq => ⟨Nat.le_trans S3.out.size hq.1, hq.2⟩)); have Zf : Hid (StR (NewR w w4) nf w4 _ (.slice A3f m3f c3f)) := Lib.hid (h3.wide (fun q hq => ⟨Nat.le_trans S3.out.size hq.1, hq.2⟩)); have If := Lib.hid hi; have Hf := Lib.hid hd; have r0 := S4.out.z.cell 0; have r1 := S4.out.z.cell 1; have r2 := S4.out.z.cell 2; have r3 := S4.out.z.cell 3; have r4 := S4.out.z.cell 4; have r5 := S4.out.z.cell 5; have rf0 := S4.out.z.frozen 0; have rf1 := S4.out.z.frozen 1; have rf2 := S4.out.z.frozen 2; have rf3 := S4.out.z.frozen 3; have rf4 := S4.out.z.frozen 4; have rf5 := S4.out.z.frozen 5; have rl := S4.out.z.lt; simp at r0 r1 r2 r3 r4 r5; clear hp hd hi h1 h2 h3)
      have F := S4.out.fin (.string x.op) (.string x.nm) (.slice Af mf cf) (.slice A2f m2f c2f) (.slice A3f m3f c3f) (.int .i64 x.a)
      have q0 := F.blk.cell 0
      have q1 := F.blk.cell 1
      have q2 := F.blk.cell 2
      have q3 := F.blk.cell 3
      have q4 := F.blk.cell 4
      have q5 := F.blk.cell 5
      simp at q0 q1 q2 q3 q4 q5
      rw [HRes.out]
      exact bodyPost_ret (v := stV x.op x.nm (.slice Af mf cf) (.slice A2f m2f c2f) (.slice A3f m3f c3f) x.a) (by simp [results, Tryz.results80, go_sem, q0, q1, q2, q3, q4, q5]) rfl ⟨nf, _, _, _, _, _, _, _, _, _, rfl, F.par, F.pd, If.out, Xf.out.fin _ _ _ _ _ _, Yf.out.fin _ _ _ _ _ _, Zf.out.fin _ _ _ _ _ _⟩
  · go_upto_region 2 with (go_at_call 87; have HY := HS1.out _ S0.out.par; (with_reducible refine HY.mono ?_); clear HY; rintro e w1 ⟨rfl, hp, hd⟩; have S1 := Lib.hid (S0.out.step hp hd); clear hp hd)
    have t0 := S1.out.t.cell 0
    have t1 := S1.out.t.cell 1
    have t2 := S1.out.t.cell 2
    have t3 := S1.out.t.cell 3
    have t4 := S1.out.t.cell 4
    have t5 := S1.out.t.cell 5
    simp at t0 t1 t2 t3 t4 t5
    obtain ⟨s1, x⟩ := rp
    go_wp2_with (go_at_call 108; have HY := HPut.out _ S1.out.par; (with_reducible refine HY.mono ?_); clear HY; rintro e w2 ⟨nf, Af, mf, cf, A2f, m2f, c2f, A3f, m3f, c3f, rfl, hp, hd, hi, h1, h2, h3⟩; have S2 := Lib.hid (S1.out.step hp hd); have Xf : Hid (ExR (NewR w w2) nf w2 _ (.slice Af mf cf)) := Lib.hid (h1.wide (fun q hq => ⟨Nat.le_trans S1.out.size hq.1, hq.2⟩)); have Yf : Hid (StR (NewR w w2) nf w2 _ (.slice A2f m2f c2f)) := Lib.hid (h2.wide (fun q hq => ⟨Nat.le_trans S1.out.size hq.1, hq.2⟩)); have Zf : Hid (StR (NewR w w2) nf w2 _ (.slice A3f m3f c3f)) := Lib.hid (h3.wide (fun q hq => ⟨Nat.le_trans S1.out.size hq.1, hq.2⟩)); have If := Lib.hid hi; have Hf := Lib.hid hd; have r0 := S2.out.z.cell 0; have r1 := S2.out.z.cell 1; have r2 := S2.out.z.cell 2; have r3 := S2.out.z.cell 3; have r4 := S2.out.z.cell 4; have r5 := S2.out.z.cell 5; have rf0 := S2.out.z.frozen 0; have rf1 := S2.out.z.frozen 1; have rf2 := S2.out.z.frozen 2; have rf3 := S2.out.z.frozen 3; have rf4 := S2.out.z.frozen 4; have rf5 := S2.out.z.frozen 5; have rl := S2.out.z.lt; simp at r0 r1 r2 r3 r4 r5; clear hp hd hi h1 h2 h3)
    have F := S2.out.fin (.string x.op) (.string x.nm) (.slice Af mf cf) (.slice A2f m2f c2f) (.slice A3f m3f c3f) (.int .i64 x.a)
    have q0 := F.blk.cell 0
    have q1 := F.blk.cell 1
    have q2 := F.blk.cell 2
    have q3 := F.blk.cell 3
    have q4 := F.blk.cell 4
    have q5 := F.blk.cell 5
    simp at q0 q1 q2 q3 q4 q5
    rw [HRes.out]
    exact bodyPost_ret (v := stV x.op x.nm (.slice Af mf cf) (.slice A2f m2f c2f) (.slice A3f m3f c3f) x.a) (by simp [results, Tryz.results80, go_sem, q0, q1, q2, q3, q4, q5]) rfl ⟨nf, _, _, _, _, _, _, _, _, _, rfl, F.par, F.pd, If.out, Xf.out.fin _ _ _ _ _ _, Yf.out.fin _ _ _ _ _ _, Zf.out.fin _ _ _ _ _ _⟩
end
end Go.Proofs.YteaongdlbleehaaGreatDoor
