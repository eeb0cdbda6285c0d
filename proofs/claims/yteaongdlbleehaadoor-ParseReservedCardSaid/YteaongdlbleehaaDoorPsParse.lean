/- The parse layer: Expr and Parse. -/
import Derived.Test.YteaongdlbleehaaDoorPsReadE
import Derived.Test.YteaongdlbleehaaDoorPsReadP
namespace Go.Proofs.YteaongdlbleehaaDoor
open Go.RowKit
section
variable {B b len k n : Nat} {M : Value} {s : PS} {w : World}
set_option maxHeartbeats 6400000 in
set_option maxRecDepth 100000 in
theorem Expr_any (src : ByteArray) (W : World) : Calls Tryd.prog 4 #[.string src] W (RetRE src.data.toList W) := by
  obtain ⟨x, at', no, hx⟩ : ∃ x at' no, exprT src.data.toList = (x, at', no) := ⟨_, _, _, rfl⟩
  obtain ⟨W0, hW0⟩ : ∃ q, q = W.alloc (.cells #[.string ⟨#[]⟩, .string ⟨#[]⟩, .int .i64 0, .slice none 0 0, .int .i64 0] 24) := ⟨_, rfl⟩
  have B0 : Hid (Below W.heap.size W W0) := Lib.hid (by rw [hW0]; exact (Below.refl _ _).alloc (Nat.le_refl _) _)
  have R0 : Hid (Blk W0 W.heap.size 24 #[.string ⟨#[]⟩, .string ⟨#[]⟩, .int .i64 0, .slice none 0 0, .int .i64 0]) := Lib.hid (by rw [hW0]; exact Blk.new W _ _)
  have HW0 := Lib.hid hW0
  have HRd := Lib.hid (readE_any src W0)
  unfold RetRE at HRd ⊢
  rw [hx] at HRd ⊢
  simp only at HRd
  clear hW0 hx
  go_enter Tryd.func4, Tryd.ntmps4
  go_upto_region 1 with fail
  rw [← HW0.out]
  go_wp2_with (go_at_call 8; have HY := HRd.out; (with_reducible refine HY.mono ?_); clear HY; rintro e w1 ⟨n5, A5, m5, c5, rfl, hb, hi1, hi2, hx1⟩; have R1 := Lib.hid (R0.out.below hb R0.out.lt); have B1 := Lib.hid (thru B0.out hb); have HS := Lib.hid hb.size; have I1 := Lib.hid (And.intro hi1 hi2); have X1 := Lib.hid hx1; clear hi1 hi2 hx1; have r0 := R1.out.cell 0; have r1 := R1.out.cell 1; have r2 := R1.out.cell 2; have r3 := R1.out.cell 3; have r4 := R1.out.cell 4; have rf0 := R1.out.frozen 0; have rf1 := R1.out.frozen 1; have rf2 := R1.out.frozen 2; have rf3 := R1.out.frozen 3; have rf4 := R1.out.frozen 4; have rl := R1.out.lt; simp at r0 r1 r2 r3 r4; clear hb)
  have F := (((((R1.out.set_ 0 (.string x.op)).set_ 1 (.string x.nm)).set_ 2 (.int .i64 x.n)).set_ 3 (.slice A5 m5 c5)).set_ 4 (.int .i64 x.a))
  have FB := (((((B1.out.setCell (p := ⟨W.heap.size, 0, none⟩) (Nat.le_refl _) (.string x.op)).setCell (p := ⟨W.heap.size, 1, none⟩) (Nat.le_refl _) (.string x.nm)).setCell (p := ⟨W.heap.size, 2, none⟩) (Nat.le_refl _) (.int .i64 x.n)).setCell (p := ⟨W.heap.size, 3, none⟩) (Nat.le_refl _) (.slice A5 m5 c5)).setCell (p := ⟨W.heap.size, 4, none⟩) (Nat.le_refl _) (.int .i64 x.a))
  have q0 := F.cell 0
  have q1 := F.cell 1
  have q2 := F.cell 2
  have q3 := F.cell 3
  have q4 := F.cell 4
  simp at q0 q1 q2 q3 q4
  refine bodyPost_ret (v := .tuple #[.agg #[.string x.op, .string x.nm, .int .i64 x.n, .slice A5 m5 c5, .int .i64 x.a], .int .i64 (at' : Int), .int .i64 (no : Int)]) (by simp [results, Tryd.results4, go_sem, q0, q1, q2, q3, q4]) rfl ⟨n5, _, _, _, rfl, FB, I1.out.1, I1.out.2, ?_⟩
  have K5 := five_kept (w := w1) (g := W.heap.size) (.string x.op) (.string x.nm) (.int .i64 x.n) (.slice A5 m5 c5) (.int .i64 x.a)
  exact (X1.out.kept (fun q hq => K5.1 q (Nat.ne_of_gt (Nat.lt_of_lt_of_le R0.out.lt hq.1)))).wide (fun q hq => ⟨Nat.le_trans (Nat.le_of_lt R0.out.lt) hq.1, by rw [K5.2]; exact hq.2⟩)
set_option maxHeartbeats 6400000 in
set_option maxRecDepth 100000 in
theorem Parse_any (src : ByteArray) (W : World) : Calls Tryd.prog 10 #[.string src] W (RetRP src.data.toList W) := by
  obtain ⟨x, at', no, hx⟩ : ∃ x at' no, parseT src.data.toList = (x, at', no) := ⟨_, _, _, rfl⟩
  obtain ⟨W0, hW0⟩ : ∃ q, q = W.alloc (.cells #[.slice none 0 0, .slice none 0 0, .slice none 0 0, .slice none 0 0] 39) := ⟨_, rfl⟩
  have B0 : Hid (Below W.heap.size W W0) := Lib.hid (by rw [hW0]; exact (Below.refl _ _).alloc (Nat.le_refl _) _)
  have R0 : Hid (Blk W0 W.heap.size 39 #[.slice none 0 0, .slice none 0 0, .slice none 0 0, .slice none 0 0]) := Lib.hid (by rw [hW0]; exact Blk.new W _ _)
  have HW0 := Lib.hid hW0
  have HRd := Lib.hid (readP_any src W0)
  unfold RetRP at HRd ⊢
  rw [hx] at HRd ⊢
  simp only at HRd
  clear hW0 hx
  go_enter Tryd.func10, Tryd.ntmps10
  go_upto_region 1 with fail
  rw [← HW0.out]
  go_wp2_with (go_at_call 17; have HY := HRd.out; (with_reducible refine HY.mono ?_); clear HY; rintro e w1 ⟨n5, vE, vV, vP, vM, rfl, hb, hx1⟩; have R1 := Lib.hid (R0.out.below hb R0.out.lt); have B1 := Lib.hid (thru B0.out hb); have HS := Lib.hid hb.size; obtain ⟨AE, cE, rfl, -⟩ := hx1.en.slice; obtain ⟨AV, cV, rfl, -⟩ := hx1.va.slice; obtain ⟨AP, cP, rfl, -⟩ := hx1.pr.slice; obtain ⟨AM, mM, cM, rfl⟩ := str_form hx1.mn; have X1 := Lib.hid hx1; clear hx1; have r0 := R1.out.cell 0; have r1 := R1.out.cell 1; have r2 := R1.out.cell 2; have r3 := R1.out.cell 3; have rf0 := R1.out.frozen 0; have rf1 := R1.out.frozen 1; have rf2 := R1.out.frozen 2; have rf3 := R1.out.frozen 3; have rl := R1.out.lt; simp at r0 r1 r2 r3; clear hb)
  have F := ((((R1.out.set_ 0 (.slice AE x.enums.length cE)).set_ 1 (.slice AV x.vars.length cV)).set_ 2 (.slice AP x.procs.length cP)).set_ 3 (.slice AM mM cM))
  have FB := ((((B1.out.setCell (p := ⟨W.heap.size, 0, none⟩) (Nat.le_refl _) (.slice AE x.enums.length cE)).setCell (p := ⟨W.heap.size, 1, none⟩) (Nat.le_refl _) (.slice AV x.vars.length cV)).setCell (p := ⟨W.heap.size, 2, none⟩) (Nat.le_refl _) (.slice AP x.procs.length cP)).setCell (p := ⟨W.heap.size, 3, none⟩) (Nat.le_refl _) (.slice AM mM cM))
  have q0 := F.cell 0
  have q1 := F.cell 1
  have q2 := F.cell 2
  have q3 := F.cell 3
  simp at q0 q1 q2 q3
  refine bodyPost_ret (v := .tuple #[.agg #[.slice AE x.enums.length cE, .slice AV x.vars.length cV, .slice AP x.procs.length cP, .slice AM mM cM], .int .i64 (at' : Int), .int .i64 (no : Int)]) (by simp [results, Tryd.results10, go_sem, q0, q1, q2, q3]) rfl ⟨n5, _, _, _, _, rfl, FB, ?_⟩
  have K5 := four_kept (w := w1) (g := W.heap.size) (.slice AE x.enums.length cE) (.slice AV x.vars.length cV) (.slice AP x.procs.length cP) (.slice AM mM cM) 0 1 2 3
  exact (X1.out.kept (fun q hq => K5.1 q (Nat.ne_of_gt (Nat.lt_of_lt_of_le R0.out.lt hq.1)))).wide (fun q hq => ⟨Nat.le_trans (Nat.le_of_lt R0.out.lt) hq.1, by rw [K5.2]; exact hq.2⟩)
end
end Go.Proofs.YteaongdlbleehaaDoor
