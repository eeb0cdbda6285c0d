/- Put together of: PsReadE, PsReadP, PsParse. -/
import Derived.Test.YteaongdlbleehaaGreatDoorGPsRead
/- The parse layer: read of an expression. -/
namespace Go.Proofs.YteaongdlbleehaaGreatDoor
open Go.RowKit
section
variable {B b len k n : Nat} {M : Value} {s : PS} {w : World}
set_option maxHeartbeats 6400000 in
set_option maxRecDepth 100000 in
theorem readE_any (src : ByteArray) (W : World) : Calls Tryz.prog 39 #[.string src, .func (.func 40) #[] #[]] W (RetRE src.data.toList W) := by
  obtain ⟨ts, at', no, hlx⟩ : ∃ ts at' no, lexS src.data.toList = (ts, at', no) := ⟨_, _, _, rfl⟩
  have hsm := lexS_small src.data.toList
  rw [hlx] at hsm
  simp only at hsm
  have HSm := Lib.hid hsm
  have hsz : src.data.toList.length = src.size := list_size src
  obtain ⟨sl, hsl⟩ : ∃ sl, src.data.toList = sl := ⟨_, rfl⟩
  have HLx : Hid (∀ w, Calls Tryz.prog 15 #[.string src] w (fun e w' => ∃ v, e = .returned (.tuple #[v, .int .i64 (at' : Int), .int .i64 (no : Int)]) ∧ w'.ownsRow w.heap.size 49 4 v ts.length (tcells ts) ∧ Below w.heap.size w w')) := Lib.hid fun w => by
    have := lex_any src w
    unfold RetL at this
    rw [hlx] at this
    exact this
  rw [hsl] at hlx hsz ⊢
  clear hsl
  obtain ⟨W1, hW1⟩ : ∃ q, q = (W.alloc (.cells #[.string ⟨#[]⟩, .string ⟨#[]⟩, .int .i64 0, .slice none 0 0, .int .i64 0] 52)).alloc (.cells #[.string ⟨#[]⟩, .string ⟨#[]⟩, .int .i64 0, .slice none 0 0, .int .i64 0] 52) := ⟨_, rfl⟩
  have hs0 : (W.alloc (.cells #[.string ⟨#[]⟩, .string ⟨#[]⟩, .int .i64 0, .slice none 0 0, .int .i64 0] 52)).heap.size = W.heap.size + 1 := World.size_alloc _ _
  have B1 : Hid (Below W.heap.size W W1) := Lib.hid (by rw [hW1]; exact ((Below.refl _ _).alloc (Nat.le_refl _) _).alloc (by rw [hs0]; exact Nat.le_succ _) _)
  have N1 : Hid (Blk W1 (W.heap.size + 1) 52 #[.string ⟨#[]⟩, .string ⟨#[]⟩, .int .i64 0, .slice none 0 0, .int .i64 0]) := Lib.hid (by rw [hW1, ← hs0]; exact Blk.new _ _ _)
  have R1 : Hid (Blk W1 W.heap.size 52 #[.string ⟨#[]⟩, .string ⟨#[]⟩, .int .i64 0, .slice none 0 0, .int .i64 0]) := Lib.hid (by rw [hW1]; exact (Blk.new W _ _).below ((Below.refl _ _).alloc (Nat.le_refl _) _) (by rw [hs0]; exact Nat.lt_succ_self _))
  have HW1 := Lib.hid hW1
  by_cases hno : no = 0
  · subst hno
    have g0 : (((0 : Nat) : Int) != 0) = false := rfl
    obtain ⟨r, hr⟩ : ∃ q, q = exE src.size ⟨ts, 0, 0⟩ := ⟨_, rfl⟩
    obtain ⟨rr, hrr⟩ : ∃ q, q = endP src.size r := ⟨_, rfl⟩
    have HRes0 := Lib.hid (readT_go (ex0) hlx (r := r) (rr := rr) (whole := exE) (by rw [hsz]; exact hr) (by rw [hsz]; exact hrr))
    rw [hsz] at HRes0
    have HRr : Hid (rr = if r.1.ts.isEmpty then r.1 else failF src.size 130 r.1) := Lib.hid (by rw [hrr]; rfl)
    have HEx : Hid (∀ (B b : Nat) (M : Value) (w : World), Par B b src.size M 0 0 ⟨ts, 0, 0⟩ w → Calls Tryz.prog 40 #[.pointer (some ⟨b, 0, none⟩)] w (RetX B b src.size M 0 0 r w)) := Lib.hid fun B b M w h => by rw [hr]; exact exprE_any h
    have HS4 : Hid (src.size ≤ 4096) := Lib.hid (by have := hsm.2.2.2 rfl; rw [list_size] at this; exact this)
    clear hlx hsm hsz hW1 hs0 hr hrr
    go_enter Tryz.func39, Tryz.ntmps39
    go_upto_region 2 with fail
    rw [← HW1.out]
    go_upto_region 3 with (go_at_call 15; have HY := HLx.out W1; (with_reducible refine HY.mono ?_); clear HY; rintro e w2 ⟨v, rfl, ho, hb⟩; have O2 := Lib.hid (tok_row ho); have H2 := Lib.hid hb; have N2 := Lib.hid (N1.out.below hb N1.out.lt); have R2 := Lib.hid (R1.out.below hb R1.out.lt); have B2 := Lib.hid (thru B1.out hb); clear ho hb)
    obtain ⟨A, c, rfl, hc, htr⟩ := O2.out
    have HTR := Lib.hid (And.intro hc htr)
    clear hc htr
    obtain ⟨W4, hW4⟩ : ∃ q, q = (w2.alloc (.map esR 7)).alloc (.cells #[.slice A ts.length c, .int .i64 (src.size : Int), .int .i64 0, .int .i64 0, .int .i64 0, .int .i64 0, .map (some w2.heap.size)] 105) := ⟨_, rfl⟩
    have HN := par_new hW4 HS4.out HSm.out.1 HSm.out.2.1 HTR.out.1 HTR.out.2
    have P4 := Lib.hid HN.1
    have E4 := Lib.hid HN.2.1
    have L4 := Lib.hid HN.2.2
    have HW4 := Lib.hid hW4
    have N4 := Lib.hid (N2.out.below E4.out N2.out.lt)
    have R4 := Lib.hid (R2.out.below E4.out R2.out.lt)
    have B4 := Lib.hid (thru B2.out E4.out)
    have HB : Hid (W.heap.size + 1 < w2.heap.size) := Lib.hid N2.out.lt
    have HG : Hid (W.heap.size + 1 ≠ w2.heap.size + 1 ∧ W.heap.size ≠ w2.heap.size + 1) := Lib.hid (by have := HB.out; omega)
    clear HN hW4
    go_upto_region 6 with (go_at_call 47; have HY := rules_any w2; (with_reducible refine HY.mono ?_); clear HY; rintro e w3 ⟨rfl, rfl⟩)
    rw [← HW4.out]
    obtain ⟨s1, x⟩ := r
    go_upto_region 7 with (go_at_call 40; have HY := HEx.out _ _ _ _ P4.out; (with_reducible refine HY.mono ?_); clear HY; rintro e w5 ⟨n5, A5, m5, c5, rfl, hp, hd, hi1, hi2, hx⟩; have P5 := Lib.hid hp; have N5 := Lib.hid (hd.blk N4.out HG.out.1); have R5 := Lib.hid (hd.blk R4.out HG.out.2); have B5 := Lib.hid (B4.out.trans (hd.below (Nat.le_of_lt (Nat.lt_trans (Nat.lt_of_succ_lt HB.out) (Nat.lt_succ_self _))) L4.out)); have I5 := Lib.hid (And.intro hi1 hi2); have X5 := Lib.hid hx; clear hi1 hi2 hx; clear hp hd)
    obtain ⟨W6, hW6⟩ : ∃ q, q = w5.alloc (.cells #[.string x.op, .string x.nm, .int .i64 x.n, .slice A5 m5 c5, .int .i64 x.a] 52) := ⟨_, rfl⟩
    have E6 : Hid (Below w5.heap.size w5 W6) := Lib.hid (by rw [hW6]; exact (Below.refl _ _).alloc (Nat.le_refl _) _)
    have G6 : Hid (Blk W6 w5.heap.size 52 #[.string x.op, .string x.nm, .int .i64 x.n, .slice A5 m5 c5, .int .i64 x.a]) := Lib.hid (by rw [hW6]; exact Blk.new w5 _ _)
    have P6 := Lib.hid (P5.out.below E6.out)
    have N6 := Lib.hid (N5.out.below E6.out N5.out.lt)
    have R6 := Lib.hid (R5.out.below E6.out R5.out.lt)
    have B6 := Lib.hid (thru B5.out E6.out)
    have X6 := Lib.hid ((X5.out).below E6.out (fun _ hq => hq.2))
    have G65 : Hid (w5.heap.size ≠ w2.heap.size + 1) := Lib.hid (Nat.ne_of_gt P5.out.lt)
    rw [← hW6]
    clear hW6
    obtain ⟨A6, c6, hB6, -⟩ := P6.out.mem
    have p0 := hB6.cell 0
    simp at p0
    cases hts : s1.ts with
    | nil =>
      rw [hts] at p0
      simp at p0
      have P7 : Hid (Par (w2.heap.size + 1) (w2.heap.size + 1) src.size (.map (some w2.heap.size)) 0 0 rr W6) := Lib.hid (by rw [HRr.out]; simp only [hts, List.isEmpty_nil, if_true]; exact P6.out)
      have X7 := Lib.hid (X6.out.wide (P' := fun q => W.heap.size + 1 ≤ q ∧ q < W6.heap.size) (fun q hq => ⟨Nat.le_trans (Nat.le_of_lt N4.out.lt) hq.1, Nat.lt_of_lt_of_le hq.2 E6.out.size⟩))
      clear hts hB6
      go_upto_region 9 with fail
      clear p0
      obtain ⟨Ar, cr, hBr, -⟩ := P7.out.mem
      have p2 := hBr.cell 2
      have p3 := hBr.cell 3
      simp at p2 p3
      by_cases he : rr.no = 0
      · have g9 : ((rr.no : Int) != 0) = false := by rw [he]; rfl
        have HRes : Hid (exprT sl = (x, src.size, 0)) := Lib.hid (by have := HRes0.out; rw [if_neg (by rw [he]; decide)] at this; exact this)
        clear he
        have t0 := G6.out.cell 0
        have t1 := G6.out.cell 1
        have t2 := G6.out.cell 2
        have t3 := G6.out.cell 3
        have t4 := G6.out.cell 4
        simp at t0 t1 t2 t3 t4
        have r0 := R6.out.cell 0
        have r1 := R6.out.cell 1
        have r2 := R6.out.cell 2
        have r3 := R6.out.cell 3
        have r4 := R6.out.cell 4
        have rf0 := R6.out.frozen 0
        have rf1 := R6.out.frozen 1
        have rf2 := R6.out.frozen 2
        have rf3 := R6.out.frozen 3
        have rf4 := R6.out.frozen 4
        have rl := R6.out.lt
        simp at r0 r1 r2 r3 r4
        go_wp2
        have F := (((((R6.out.set_ 0 (.string x.op)).set_ 1 (.string x.nm)).set_ 2 (.int .i64 x.n)).set_ 3 (.slice A5 m5 c5)).set_ 4 (.int .i64 x.a))
        have FB := (((((B6.out.setCell (p := ⟨W.heap.size, 0, none⟩) (Nat.le_refl _) (.string x.op)).setCell (p := ⟨W.heap.size, 1, none⟩) (Nat.le_refl _) (.string x.nm)).setCell (p := ⟨W.heap.size, 2, none⟩) (Nat.le_refl _) (.int .i64 x.n)).setCell (p := ⟨W.heap.size, 3, none⟩) (Nat.le_refl _) (.slice A5 m5 c5)).setCell (p := ⟨W.heap.size, 4, none⟩) (Nat.le_refl _) (.int .i64 x.a))
        have q0 := F.cell 0
        have q1 := F.cell 1
        have q2 := F.cell 2
        have q3 := F.cell 3
        have q4 := F.cell 4
        simp at q0 q1 q2 q3 q4
        unfold RetRE
        rw [HRes.out]
        refine bodyPost_ret (v := .tuple #[.agg #[.string x.op, .string x.nm, .int .i64 x.n, .slice A5 m5 c5, .int .i64 x.a], .int .i64 (src.size : Int), .int .i64 ((0 : Nat) : Int)]) (by simp [results, Tryz.results39, go_sem, q0, q1, q2, q3, q4]) rfl ⟨n5, _, _, _, rfl, FB, I5.out.1, I5.out.2, ?_⟩
        have K5 := five_kept (w := W6) (g := W.heap.size) (.string x.op) (.string x.nm) (.int .i64 x.n) (.slice A5 m5 c5) (.int .i64 x.a)
        exact (X7.out.kept (fun q hq => K5.1 q (Nat.ne_of_gt hq.1))).wide (fun q hq => ⟨Nat.le_of_lt hq.1, by rw [K5.2]; exact hq.2⟩)
      · have g9 : ((rr.no : Int) != 0) = true := by simp; exact he
        have HRes : Hid (exprT sl = (ex0, rr.at_, rr.no)) := Lib.hid (by have := HRes0.out; rw [if_pos he] at this; exact this)
        clear he
        have t0 := N6.out.cell 0
        have t1 := N6.out.cell 1
        have t2 := N6.out.cell 2
        have t3 := N6.out.cell 3
        have t4 := N6.out.cell 4
        simp at t0 t1 t2 t3 t4
        have r0 := R6.out.cell 0
        have r1 := R6.out.cell 1
        have r2 := R6.out.cell 2
        have r3 := R6.out.cell 3
        have r4 := R6.out.cell 4
        have rf0 := R6.out.frozen 0
        have rf1 := R6.out.frozen 1
        have rf2 := R6.out.frozen 2
        have rf3 := R6.out.frozen 3
        have rf4 := R6.out.frozen 4
        have rl := R6.out.lt
        simp at r0 r1 r2 r3 r4
        go_wp2
        have hg1 := HG.out.2
        have hg2 := hg1.symm
        go_region
        go_wp2
        have F := blk_drew (((((R6.out.set_ 0 (.string ⟨#[]⟩)).set_ 1 (.string ⟨#[]⟩)).set_ 2 (.int .i64 0)).set_ 3 (.slice none 0 0)).set_ 4 (.int .i64 0))
        have FB := (((((B6.out.setCell (p := ⟨W.heap.size, 0, none⟩) (Nat.le_refl _) (.string ⟨#[]⟩)).setCell (p := ⟨W.heap.size, 1, none⟩) (Nat.le_refl _) (.string ⟨#[]⟩)).setCell (p := ⟨W.heap.size, 2, none⟩) (Nat.le_refl _) (.int .i64 0)).setCell (p := ⟨W.heap.size, 3, none⟩) (Nat.le_refl _) (.slice none 0 0)).setCell (p := ⟨W.heap.size, 4, none⟩) (Nat.le_refl _) (.int .i64 0)).drew
        have q0 := F.cell 0
        have q1 := F.cell 1
        have q2 := F.cell 2
        have q3 := F.cell 3
        have q4 := F.cell 4
        simp at q0 q1 q2 q3 q4
        unfold RetRE
        rw [HRes.out]
        exact bodyPost_ret (v := .tuple #[.agg #[.string ⟨#[]⟩, .string ⟨#[]⟩, .int .i64 0, .slice none 0 0, .int .i64 0], .int .i64 (rr.at_ : Int), .int .i64 (rr.no : Int)]) (by simp [results, Tryz.results39, go_sem, q0, q1, q2, q3, q4]) rfl ⟨1, none, 0, 0, rfl, FB, in64_zero, in64_zero, exr_nil⟩
    | cons tk0 rs =>
      rw [hts, List.length_cons] at p0
      have gl : ((rs.length : Int) + 1 > 0) := by omega
      have HF : Hid (rr = failF src.size 130 s1) := Lib.hid (by rw [HRr.out]; simp only [hts, List.isEmpty_cons]; rfl)
      clear hts hB6
      go_upto_region 9 with (go_at_call 48; have HY := fail_p P6.out; (with_reducible refine HY.mono ?_); clear HY; rintro e w7 ⟨rfl, hp, hd⟩; have P7 : Hid (Par (w2.heap.size + 1) (w2.heap.size + 1) src.size (.map (some w2.heap.size)) 0 0 rr w7) := Lib.hid (by rw [HF.out]; exact hp); have N7 := Lib.hid (hd.blk N6.out HG.out.1); have R7 := Lib.hid (hd.blk R6.out HG.out.2); have G7 := Lib.hid (hd.blk G6.out G65.out); have B7 := Lib.hid (B6.out.trans (hd.below (Nat.le_of_lt (Nat.lt_trans (Nat.lt_of_succ_lt HB.out) (Nat.lt_succ_self _))) P6.out.lt)); have X7 := Lib.hid ((X6.out.kept (fun q hq => hd.block q (Nat.lt_of_lt_of_le hq.2 E6.out.size) (Nat.ne_of_gt (Nat.lt_of_lt_of_le L4.out hq.1)))).wide (P' := fun q => W.heap.size + 1 ≤ q ∧ q < w7.heap.size) (fun q hq => ⟨Nat.le_trans (Nat.le_of_lt N4.out.lt) hq.1, Nat.lt_of_lt_of_le hq.2 (Nat.le_trans E6.out.size hd.size)⟩)); clear hp hd)
      clear p0 gl
      obtain ⟨Ar, cr, hBr, -⟩ := P7.out.mem
      have p2 := hBr.cell 2
      have p3 := hBr.cell 3
      simp at p2 p3
      by_cases he : rr.no = 0
      · have g9 : ((rr.no : Int) != 0) = false := by rw [he]; rfl
        have HRes : Hid (exprT sl = (x, src.size, 0)) := Lib.hid (by have := HRes0.out; rw [if_neg (by rw [he]; decide)] at this; exact this)
        clear he
        have t0 := G7.out.cell 0
        have t1 := G7.out.cell 1
        have t2 := G7.out.cell 2
        have t3 := G7.out.cell 3
        have t4 := G7.out.cell 4
        simp at t0 t1 t2 t3 t4
        have r0 := R7.out.cell 0
        have r1 := R7.out.cell 1
        have r2 := R7.out.cell 2
        have r3 := R7.out.cell 3
        have r4 := R7.out.cell 4
        have rf0 := R7.out.frozen 0
        have rf1 := R7.out.frozen 1
        have rf2 := R7.out.frozen 2
        have rf3 := R7.out.frozen 3
        have rf4 := R7.out.frozen 4
        have rl := R7.out.lt
        simp at r0 r1 r2 r3 r4
        go_wp2
        have F := (((((R7.out.set_ 0 (.string x.op)).set_ 1 (.string x.nm)).set_ 2 (.int .i64 x.n)).set_ 3 (.slice A5 m5 c5)).set_ 4 (.int .i64 x.a))
        have FB := (((((B7.out.setCell (p := ⟨W.heap.size, 0, none⟩) (Nat.le_refl _) (.string x.op)).setCell (p := ⟨W.heap.size, 1, none⟩) (Nat.le_refl _) (.string x.nm)).setCell (p := ⟨W.heap.size, 2, none⟩) (Nat.le_refl _) (.int .i64 x.n)).setCell (p := ⟨W.heap.size, 3, none⟩) (Nat.le_refl _) (.slice A5 m5 c5)).setCell (p := ⟨W.heap.size, 4, none⟩) (Nat.le_refl _) (.int .i64 x.a))
        have q0 := F.cell 0
        have q1 := F.cell 1
        have q2 := F.cell 2
        have q3 := F.cell 3
        have q4 := F.cell 4
        simp at q0 q1 q2 q3 q4
        unfold RetRE
        rw [HRes.out]
        refine bodyPost_ret (v := .tuple #[.agg #[.string x.op, .string x.nm, .int .i64 x.n, .slice A5 m5 c5, .int .i64 x.a], .int .i64 (src.size : Int), .int .i64 ((0 : Nat) : Int)]) (by simp [results, Tryz.results39, go_sem, q0, q1, q2, q3, q4]) rfl ⟨n5, _, _, _, rfl, FB, I5.out.1, I5.out.2, ?_⟩
        have K5 := five_kept (w := w7) (g := W.heap.size) (.string x.op) (.string x.nm) (.int .i64 x.n) (.slice A5 m5 c5) (.int .i64 x.a)
        exact (X7.out.kept (fun q hq => K5.1 q (Nat.ne_of_gt hq.1))).wide (fun q hq => ⟨Nat.le_of_lt hq.1, by rw [K5.2]; exact hq.2⟩)
      · have g9 : ((rr.no : Int) != 0) = true := by simp; exact he
        have HRes : Hid (exprT sl = (ex0, rr.at_, rr.no)) := Lib.hid (by have := HRes0.out; rw [if_pos he] at this; exact this)
        clear he
        have t0 := N7.out.cell 0
        have t1 := N7.out.cell 1
        have t2 := N7.out.cell 2
        have t3 := N7.out.cell 3
        have t4 := N7.out.cell 4
        simp at t0 t1 t2 t3 t4
        have r0 := R7.out.cell 0
        have r1 := R7.out.cell 1
        have r2 := R7.out.cell 2
        have r3 := R7.out.cell 3
        have r4 := R7.out.cell 4
        have rf0 := R7.out.frozen 0
        have rf1 := R7.out.frozen 1
        have rf2 := R7.out.frozen 2
        have rf3 := R7.out.frozen 3
        have rf4 := R7.out.frozen 4
        have rl := R7.out.lt
        simp at r0 r1 r2 r3 r4
        go_wp2
        have hg1 := HG.out.2
        have hg2 := hg1.symm
        go_region
        go_wp2
        have F := blk_drew (((((R7.out.set_ 0 (.string ⟨#[]⟩)).set_ 1 (.string ⟨#[]⟩)).set_ 2 (.int .i64 0)).set_ 3 (.slice none 0 0)).set_ 4 (.int .i64 0))
        have FB := (((((B7.out.setCell (p := ⟨W.heap.size, 0, none⟩) (Nat.le_refl _) (.string ⟨#[]⟩)).setCell (p := ⟨W.heap.size, 1, none⟩) (Nat.le_refl _) (.string ⟨#[]⟩)).setCell (p := ⟨W.heap.size, 2, none⟩) (Nat.le_refl _) (.int .i64 0)).setCell (p := ⟨W.heap.size, 3, none⟩) (Nat.le_refl _) (.slice none 0 0)).setCell (p := ⟨W.heap.size, 4, none⟩) (Nat.le_refl _) (.int .i64 0)).drew
        have q0 := F.cell 0
        have q1 := F.cell 1
        have q2 := F.cell 2
        have q3 := F.cell 3
        have q4 := F.cell 4
        simp at q0 q1 q2 q3 q4
        unfold RetRE
        rw [HRes.out]
        exact bodyPost_ret (v := .tuple #[.agg #[.string ⟨#[]⟩, .string ⟨#[]⟩, .int .i64 0, .slice none 0 0, .int .i64 0], .int .i64 (rr.at_ : Int), .int .i64 (rr.no : Int)]) (by simp [results, Tryz.results39, go_sem, q0, q1, q2, q3, q4]) rfl ⟨1, none, 0, 0, rfl, FB, in64_zero, in64_zero, exr_nil⟩
  · have g0 : ((no : Int) != 0) = true := by simp; exact hno
    have HRes0 := Lib.hid (readT_fail exE (ex0) hlx hno)
    clear hlx hsm hsz hW1 hs0 hno
    go_enter Tryz.func39, Tryz.ntmps39
    go_upto_region 2 with fail
    rw [← HW1.out]
    go_wp2_with (go_at_call 15; have HY := HLx.out W1; (with_reducible refine HY.mono ?_); clear HY; rintro e w2 ⟨v, rfl, ho, hb⟩; have N2 := Lib.hid (N1.out.below hb N1.out.lt); have R2 := Lib.hid (R1.out.below hb R1.out.lt); have B2 := Lib.hid (thru B1.out hb); have c0 := N2.out.cell 0; have c1 := N2.out.cell 1; have c2 := N2.out.cell 2; have c3 := N2.out.cell 3; have c4 := N2.out.cell 4; simp at c0 c1 c2 c3 c4; have r0 := R2.out.cell 0; have r1 := R2.out.cell 1; have r2 := R2.out.cell 2; have r3 := R2.out.cell 3; have r4 := R2.out.cell 4; have rf0 := R2.out.frozen 0; have rf1 := R2.out.frozen 1; have rf2 := R2.out.frozen 2; have rf3 := R2.out.frozen 3; have rf4 := R2.out.frozen 4; have rl := R2.out.lt; simp at r0 r1 r2 r3 r4; clear ho hb)
    have F := (((((R2.out.set_ 0 (.string ⟨#[]⟩)).set_ 1 (.string ⟨#[]⟩)).set_ 2 (.int .i64 0)).set_ 3 (.slice none 0 0)).set_ 4 (.int .i64 0))
    have FB := (((((B2.out.setCell (p := ⟨W.heap.size, 0, none⟩) (Nat.le_refl _) (.string ⟨#[]⟩)).setCell (p := ⟨W.heap.size, 1, none⟩) (Nat.le_refl _) (.string ⟨#[]⟩)).setCell (p := ⟨W.heap.size, 2, none⟩) (Nat.le_refl _) (.int .i64 0)).setCell (p := ⟨W.heap.size, 3, none⟩) (Nat.le_refl _) (.slice none 0 0)).setCell (p := ⟨W.heap.size, 4, none⟩) (Nat.le_refl _) (.int .i64 0))
    have q0 := F.cell 0
    have q1 := F.cell 1
    have q2 := F.cell 2
    have q3 := F.cell 3
    have q4 := F.cell 4
    simp at q0 q1 q2 q3 q4
    unfold RetRE
    rw [show exprT sl = _ from HRes0.out]
    exact bodyPost_ret (v := .tuple #[.agg #[.string ⟨#[]⟩, .string ⟨#[]⟩, .int .i64 0, .slice none 0 0, .int .i64 0], .int .i64 (at' : Int), .int .i64 (no : Int)]) (by simp [results, Tryz.results39, go_sem, q0, q1, q2, q3, q4]) rfl ⟨1, none, 0, 0, rfl, FB, in64_zero, in64_zero, exr_nil⟩
end
end Go.Proofs.YteaongdlbleehaaGreatDoor

/- The parse layer: read of a program. -/
namespace Go.Proofs.YteaongdlbleehaaGreatDoor
open Go.RowKit
section
variable {B b len k n : Nat} {M : Value} {s : PS} {w : World}
set_option maxHeartbeats 6400000 in
set_option maxRecDepth 100000 in
theorem readP_any (src : ByteArray) (W : World) : Calls Tryz.prog 20 #[.string src, .func (.func 21) #[] #[]] W (RetRP src.data.toList W) := by
  obtain ⟨ts, at', no, hlx⟩ : ∃ ts at' no, lexS src.data.toList = (ts, at', no) := ⟨_, _, _, rfl⟩
  have hsm := lexS_small src.data.toList
  rw [hlx] at hsm
  simp only at hsm
  have HSm := Lib.hid hsm
  have hsz : src.data.toList.length = src.size := list_size src
  obtain ⟨sl, hsl⟩ : ∃ sl, src.data.toList = sl := ⟨_, rfl⟩
  have HLx : Hid (∀ w, Calls Tryz.prog 15 #[.string src] w (fun e w' => ∃ v, e = .returned (.tuple #[v, .int .i64 (at' : Int), .int .i64 (no : Int)]) ∧ w'.ownsRow w.heap.size 49 4 v ts.length (tcells ts) ∧ Below w.heap.size w w')) := Lib.hid fun w => by
    have := lex_any src w
    unfold RetL at this
    rw [hlx] at this
    exact this
  rw [hsl] at hlx hsz ⊢
  clear hsl
  obtain ⟨W1, hW1⟩ : ∃ q, q = (W.alloc (.cells #[.slice none 0 0, .slice none 0 0, .slice none 0 0, .slice none 0 0] 28)).alloc (.cells #[.slice none 0 0, .slice none 0 0, .slice none 0 0, .slice none 0 0] 28) := ⟨_, rfl⟩
  have hs0 : (W.alloc (.cells #[.slice none 0 0, .slice none 0 0, .slice none 0 0, .slice none 0 0] 28)).heap.size = W.heap.size + 1 := World.size_alloc _ _
  have B1 : Hid (Below W.heap.size W W1) := Lib.hid (by rw [hW1]; exact ((Below.refl _ _).alloc (Nat.le_refl _) _).alloc (by rw [hs0]; exact Nat.le_succ _) _)
  have N1 : Hid (Blk W1 (W.heap.size + 1) 28 #[.slice none 0 0, .slice none 0 0, .slice none 0 0, .slice none 0 0]) := Lib.hid (by rw [hW1, ← hs0]; exact Blk.new _ _ _)
  have R1 : Hid (Blk W1 W.heap.size 28 #[.slice none 0 0, .slice none 0 0, .slice none 0 0, .slice none 0 0]) := Lib.hid (by rw [hW1]; exact (Blk.new W _ _).below ((Below.refl _ _).alloc (Nat.le_refl _) _) (by rw [hs0]; exact Nat.lt_succ_self _))
  have HW1 := Lib.hid hW1
  by_cases hno : no = 0
  · subst hno
    have g0 : (((0 : Nat) : Int) != 0) = false := rfl
    obtain ⟨r, hr⟩ : ∃ q, q = progP src.size ⟨ts, 0, 0⟩ := ⟨_, rfl⟩
    obtain ⟨rr, hrr⟩ : ∃ q, q = endP src.size r := ⟨_, rfl⟩
    have HRes0 := Lib.hid (readT_go (pg0) hlx (r := r) (rr := rr) (whole := progP) (by rw [hsz]; exact hr) (by rw [hsz]; exact hrr))
    rw [hsz] at HRes0
    have HRr : Hid (rr = if r.1.ts.isEmpty then r.1 else failF src.size 130 r.1) := Lib.hid (by rw [hrr]; rfl)
    have HEx : Hid (∀ (B b : Nat) (M : Value) (w : World), Par B b src.size M 0 0 ⟨ts, 0, 0⟩ w → Calls Tryz.prog 21 #[.pointer (some ⟨b, 0, none⟩)] w (RetPr B b src.size M r w)) := Lib.hid fun B b M w h => by rw [hr]; exact program_any h
    have HS4 : Hid (src.size ≤ 4096) := Lib.hid (by have := hsm.2.2.2 rfl; rw [list_size] at this; exact this)
    clear hlx hsm hsz hW1 hs0 hr hrr
    go_enter Tryz.func20, Tryz.ntmps20
    go_upto_region 2 with fail
    rw [← HW1.out]
    go_upto_region 3 with (go_at_call 15; have HY := HLx.out W1; (with_reducible refine HY.mono ?_); clear HY; rintro e w2 ⟨v, rfl, ho, hb⟩; have O2 := Lib.hid (tok_row ho); have H2 := Lib.hid hb; have N2 := Lib.hid (N1.out.below hb N1.out.lt); have R2 := Lib.hid (R1.out.below hb R1.out.lt); have B2 := Lib.hid (thru B1.out hb); clear ho hb)
    obtain ⟨A, c, rfl, hc, htr⟩ := O2.out
    have HTR := Lib.hid (And.intro hc htr)
    clear hc htr
    obtain ⟨W4, hW4⟩ : ∃ q, q = (w2.alloc (.map esR 7)).alloc (.cells #[.slice A ts.length c, .int .i64 (src.size : Int), .int .i64 0, .int .i64 0, .int .i64 0, .int .i64 0, .map (some w2.heap.size)] 105) := ⟨_, rfl⟩
    have HN := par_new hW4 HS4.out HSm.out.1 HSm.out.2.1 HTR.out.1 HTR.out.2
    have P4 := Lib.hid HN.1
    have E4 := Lib.hid HN.2.1
    have L4 := Lib.hid HN.2.2
    have HW4 := Lib.hid hW4
    have N4 := Lib.hid (N2.out.below E4.out N2.out.lt)
    have R4 := Lib.hid (R2.out.below E4.out R2.out.lt)
    have B4 := Lib.hid (thru B2.out E4.out)
    have HB : Hid (W.heap.size + 1 < w2.heap.size) := Lib.hid N2.out.lt
    have HG : Hid (W.heap.size + 1 ≠ w2.heap.size + 1 ∧ W.heap.size ≠ w2.heap.size + 1) := Lib.hid (by have := HB.out; omega)
    clear HN hW4
    go_upto_region 6 with (go_at_call 47; have HY := rules_any w2; (with_reducible refine HY.mono ?_); clear HY; rintro e w3 ⟨rfl, rfl⟩)
    rw [← HW4.out]
    obtain ⟨s1, x⟩ := r
    go_upto_region 7 with (go_at_call 21; have HY := HEx.out _ _ _ _ P4.out; (with_reducible refine HY.mono ?_); clear HY; rintro e w5 ⟨n5, vE, vV, vP, vM, rfl, hp, hd, hx⟩; have P5 := Lib.hid hp; have N5 := Lib.hid (hd.blk N4.out HG.out.1); have R5 := Lib.hid (hd.blk R4.out HG.out.2); have B5 := Lib.hid (B4.out.trans (hd.below (Nat.le_of_lt (Nat.lt_trans (Nat.lt_of_succ_lt HB.out) (Nat.lt_succ_self _))) L4.out)); obtain ⟨AE, cE, rfl, -⟩ := hx.en.slice; obtain ⟨AV, cV, rfl, -⟩ := hx.va.slice; obtain ⟨AP, cP, rfl, -⟩ := hx.pr.slice; obtain ⟨AM, mM, cM, rfl⟩ := str_form hx.mn; have X5 := Lib.hid hx; clear hx; clear hp hd)
    obtain ⟨W6, hW6⟩ : ∃ q, q = w5.alloc (.cells #[.slice AE x.enums.length cE, .slice AV x.vars.length cV, .slice AP x.procs.length cP, .slice AM mM cM] 28) := ⟨_, rfl⟩
    have E6 : Hid (Below w5.heap.size w5 W6) := Lib.hid (by rw [hW6]; exact (Below.refl _ _).alloc (Nat.le_refl _) _)
    have G6 : Hid (Blk W6 w5.heap.size 28 #[.slice AE x.enums.length cE, .slice AV x.vars.length cV, .slice AP x.procs.length cP, .slice AM mM cM]) := Lib.hid (by rw [hW6]; exact Blk.new w5 _ _)
    have P6 := Lib.hid (P5.out.below E6.out)
    have N6 := Lib.hid (N5.out.below E6.out N5.out.lt)
    have R6 := Lib.hid (R5.out.below E6.out R5.out.lt)
    have B6 := Lib.hid (thru B5.out E6.out)
    have X6 := Lib.hid ((X5.out).below E6.out (fun _ hq => hq.2))
    have G65 : Hid (w5.heap.size ≠ w2.heap.size + 1) := Lib.hid (Nat.ne_of_gt P5.out.lt)
    rw [← hW6]
    clear hW6
    obtain ⟨A6, c6, hB6, -⟩ := P6.out.mem
    have p0 := hB6.cell 0
    simp at p0
    cases hts : s1.ts with
    | nil =>
      rw [hts] at p0
      simp at p0
      have P7 : Hid (Par (w2.heap.size + 1) (w2.heap.size + 1) src.size (.map (some w2.heap.size)) 0 0 rr W6) := Lib.hid (by rw [HRr.out]; simp only [hts, List.isEmpty_nil, if_true]; exact P6.out)
      have X7 := Lib.hid (X6.out.wide (P' := fun q => W.heap.size + 1 ≤ q ∧ q < W6.heap.size) (fun q hq => ⟨Nat.le_trans (Nat.le_of_lt N4.out.lt) hq.1, Nat.lt_of_lt_of_le hq.2 E6.out.size⟩))
      clear hts hB6
      go_upto_region 9 with fail
      clear p0
      obtain ⟨Ar, cr, hBr, -⟩ := P7.out.mem
      have p2 := hBr.cell 2
      have p3 := hBr.cell 3
      simp at p2 p3
      by_cases he : rr.no = 0
      · have g9 : ((rr.no : Int) != 0) = false := by rw [he]; rfl
        have HRes : Hid (parseT sl = (x, src.size, 0)) := Lib.hid (by have := HRes0.out; rw [if_neg (by rw [he]; decide)] at this; exact this)
        clear he
        have t0 := G6.out.cell 0
        have t1 := G6.out.cell 1
        have t2 := G6.out.cell 2
        have t3 := G6.out.cell 3
        simp at t0 t1 t2 t3
        have r0 := R6.out.cell 0
        have r1 := R6.out.cell 1
        have r2 := R6.out.cell 2
        have r3 := R6.out.cell 3
        have rf0 := R6.out.frozen 0
        have rf1 := R6.out.frozen 1
        have rf2 := R6.out.frozen 2
        have rf3 := R6.out.frozen 3
        have rl := R6.out.lt
        simp at r0 r1 r2 r3
        go_wp2
        have F := ((((R6.out.set_ 0 (.slice AE x.enums.length cE)).set_ 1 (.slice AV x.vars.length cV)).set_ 2 (.slice AP x.procs.length cP)).set_ 3 (.slice AM mM cM))
        have FB := ((((B6.out.setCell (p := ⟨W.heap.size, 0, none⟩) (Nat.le_refl _) (.slice AE x.enums.length cE)).setCell (p := ⟨W.heap.size, 1, none⟩) (Nat.le_refl _) (.slice AV x.vars.length cV)).setCell (p := ⟨W.heap.size, 2, none⟩) (Nat.le_refl _) (.slice AP x.procs.length cP)).setCell (p := ⟨W.heap.size, 3, none⟩) (Nat.le_refl _) (.slice AM mM cM))
        have q0 := F.cell 0
        have q1 := F.cell 1
        have q2 := F.cell 2
        have q3 := F.cell 3
        simp at q0 q1 q2 q3
        unfold RetRP
        rw [HRes.out]
        refine bodyPost_ret (v := .tuple #[.agg #[.slice AE x.enums.length cE, .slice AV x.vars.length cV, .slice AP x.procs.length cP, .slice AM mM cM], .int .i64 (src.size : Int), .int .i64 ((0 : Nat) : Int)]) (by simp [results, Tryz.results20, go_sem, q0, q1, q2, q3]) rfl ⟨n5, _, _, _, _, rfl, FB, ?_⟩
        have K5 := four_kept (w := W6) (g := W.heap.size) (.slice AE x.enums.length cE) (.slice AV x.vars.length cV) (.slice AP x.procs.length cP) (.slice AM mM cM) 0 1 2 3
        exact (X7.out.kept (fun q hq => K5.1 q (Nat.ne_of_gt hq.1))).wide (fun q hq => ⟨Nat.le_of_lt hq.1, by rw [K5.2]; exact hq.2⟩)
      · have g9 : ((rr.no : Int) != 0) = true := by simp; exact he
        have HRes : Hid (parseT sl = (pg0, rr.at_, rr.no)) := Lib.hid (by have := HRes0.out; rw [if_pos he] at this; exact this)
        clear he
        have t0 := N6.out.cell 0
        have t1 := N6.out.cell 1
        have t2 := N6.out.cell 2
        have t3 := N6.out.cell 3
        simp at t0 t1 t2 t3
        have r0 := R6.out.cell 0
        have r1 := R6.out.cell 1
        have r2 := R6.out.cell 2
        have r3 := R6.out.cell 3
        have rf0 := R6.out.frozen 0
        have rf1 := R6.out.frozen 1
        have rf2 := R6.out.frozen 2
        have rf3 := R6.out.frozen 3
        have rl := R6.out.lt
        simp at r0 r1 r2 r3
        go_wp2
        have hg1 := HG.out.2
        have hg2 := hg1.symm
        go_region
        go_wp2
        have F := blk_drew ((((R6.out.set_ 0 (.slice none 0 0)).set_ 1 (.slice none 0 0)).set_ 2 (.slice none 0 0)).set_ 3 (.slice none 0 0))
        have FB := ((((B6.out.setCell (p := ⟨W.heap.size, 0, none⟩) (Nat.le_refl _) (.slice none 0 0)).setCell (p := ⟨W.heap.size, 1, none⟩) (Nat.le_refl _) (.slice none 0 0)).setCell (p := ⟨W.heap.size, 2, none⟩) (Nat.le_refl _) (.slice none 0 0)).setCell (p := ⟨W.heap.size, 3, none⟩) (Nat.le_refl _) (.slice none 0 0)).drew
        have q0 := F.cell 0
        have q1 := F.cell 1
        have q2 := F.cell 2
        have q3 := F.cell 3
        simp at q0 q1 q2 q3
        unfold RetRP
        rw [HRes.out]
        exact bodyPost_ret (v := .tuple #[.agg #[.slice none 0 0, .slice none 0 0, .slice none 0 0, .slice none 0 0], .int .i64 (rr.at_ : Int), .int .i64 (rr.no : Int)]) (by simp [results, Tryz.results20, go_sem, q0, q1, q2, q3]) rfl ⟨1, _, _, _, _, rfl, FB, pgr_nil⟩
    | cons tk0 rs =>
      rw [hts, List.length_cons] at p0
      have gl : ((rs.length : Int) + 1 > 0) := by omega
      have HF : Hid (rr = failF src.size 130 s1) := Lib.hid (by rw [HRr.out]; simp only [hts, List.isEmpty_cons]; rfl)
      clear hts hB6
      go_upto_region 9 with (go_at_call 48; have HY := fail_p P6.out; (with_reducible refine HY.mono ?_); clear HY; rintro e w7 ⟨rfl, hp, hd⟩; have P7 : Hid (Par (w2.heap.size + 1) (w2.heap.size + 1) src.size (.map (some w2.heap.size)) 0 0 rr w7) := Lib.hid (by rw [HF.out]; exact hp); have N7 := Lib.hid (hd.blk N6.out HG.out.1); have R7 := Lib.hid (hd.blk R6.out HG.out.2); have G7 := Lib.hid (hd.blk G6.out G65.out); have B7 := Lib.hid (B6.out.trans (hd.below (Nat.le_of_lt (Nat.lt_trans (Nat.lt_of_succ_lt HB.out) (Nat.lt_succ_self _))) P6.out.lt)); have X7 := Lib.hid ((X6.out.kept (fun q hq => hd.block q (Nat.lt_of_lt_of_le hq.2 E6.out.size) (Nat.ne_of_gt (Nat.lt_of_lt_of_le L4.out hq.1)))).wide (P' := fun q => W.heap.size + 1 ≤ q ∧ q < w7.heap.size) (fun q hq => ⟨Nat.le_trans (Nat.le_of_lt N4.out.lt) hq.1, Nat.lt_of_lt_of_le hq.2 (Nat.le_trans E6.out.size hd.size)⟩)); clear hp hd)
      clear p0 gl
      obtain ⟨Ar, cr, hBr, -⟩ := P7.out.mem
      have p2 := hBr.cell 2
      have p3 := hBr.cell 3
      simp at p2 p3
      by_cases he : rr.no = 0
      · have g9 : ((rr.no : Int) != 0) = false := by rw [he]; rfl
        have HRes : Hid (parseT sl = (x, src.size, 0)) := Lib.hid (by have := HRes0.out; rw [if_neg (by rw [he]; decide)] at this; exact this)
        clear he
        have t0 := G7.out.cell 0
        have t1 := G7.out.cell 1
        have t2 := G7.out.cell 2
        have t3 := G7.out.cell 3
        simp at t0 t1 t2 t3
        have r0 := R7.out.cell 0
        have r1 := R7.out.cell 1
        have r2 := R7.out.cell 2
        have r3 := R7.out.cell 3
        have rf0 := R7.out.frozen 0
        have rf1 := R7.out.frozen 1
        have rf2 := R7.out.frozen 2
        have rf3 := R7.out.frozen 3
        have rl := R7.out.lt
        simp at r0 r1 r2 r3
        go_wp2
        have F := ((((R7.out.set_ 0 (.slice AE x.enums.length cE)).set_ 1 (.slice AV x.vars.length cV)).set_ 2 (.slice AP x.procs.length cP)).set_ 3 (.slice AM mM cM))
        have FB := ((((B7.out.setCell (p := ⟨W.heap.size, 0, none⟩) (Nat.le_refl _) (.slice AE x.enums.length cE)).setCell (p := ⟨W.heap.size, 1, none⟩) (Nat.le_refl _) (.slice AV x.vars.length cV)).setCell (p := ⟨W.heap.size, 2, none⟩) (Nat.le_refl _) (.slice AP x.procs.length cP)).setCell (p := ⟨W.heap.size, 3, none⟩) (Nat.le_refl _) (.slice AM mM cM))
        have q0 := F.cell 0
        have q1 := F.cell 1
        have q2 := F.cell 2
        have q3 := F.cell 3
        simp at q0 q1 q2 q3
        unfold RetRP
        rw [HRes.out]
        refine bodyPost_ret (v := .tuple #[.agg #[.slice AE x.enums.length cE, .slice AV x.vars.length cV, .slice AP x.procs.length cP, .slice AM mM cM], .int .i64 (src.size : Int), .int .i64 ((0 : Nat) : Int)]) (by simp [results, Tryz.results20, go_sem, q0, q1, q2, q3]) rfl ⟨n5, _, _, _, _, rfl, FB, ?_⟩
        have K5 := four_kept (w := w7) (g := W.heap.size) (.slice AE x.enums.length cE) (.slice AV x.vars.length cV) (.slice AP x.procs.length cP) (.slice AM mM cM) 0 1 2 3
        exact (X7.out.kept (fun q hq => K5.1 q (Nat.ne_of_gt hq.1))).wide (fun q hq => ⟨Nat.le_of_lt hq.1, by rw [K5.2]; exact hq.2⟩)
      · have g9 : ((rr.no : Int) != 0) = true := by simp; exact he
        have HRes : Hid (parseT sl = (pg0, rr.at_, rr.no)) := Lib.hid (by have := HRes0.out; rw [if_pos he] at this; exact this)
        clear he
        have t0 := N7.out.cell 0
        have t1 := N7.out.cell 1
        have t2 := N7.out.cell 2
        have t3 := N7.out.cell 3
        simp at t0 t1 t2 t3
        have r0 := R7.out.cell 0
        have r1 := R7.out.cell 1
        have r2 := R7.out.cell 2
        have r3 := R7.out.cell 3
        have rf0 := R7.out.frozen 0
        have rf1 := R7.out.frozen 1
        have rf2 := R7.out.frozen 2
        have rf3 := R7.out.frozen 3
        have rl := R7.out.lt
        simp at r0 r1 r2 r3
        go_wp2
        have hg1 := HG.out.2
        have hg2 := hg1.symm
        go_region
        go_wp2
        have F := blk_drew ((((R7.out.set_ 0 (.slice none 0 0)).set_ 1 (.slice none 0 0)).set_ 2 (.slice none 0 0)).set_ 3 (.slice none 0 0))
        have FB := ((((B7.out.setCell (p := ⟨W.heap.size, 0, none⟩) (Nat.le_refl _) (.slice none 0 0)).setCell (p := ⟨W.heap.size, 1, none⟩) (Nat.le_refl _) (.slice none 0 0)).setCell (p := ⟨W.heap.size, 2, none⟩) (Nat.le_refl _) (.slice none 0 0)).setCell (p := ⟨W.heap.size, 3, none⟩) (Nat.le_refl _) (.slice none 0 0)).drew
        have q0 := F.cell 0
        have q1 := F.cell 1
        have q2 := F.cell 2
        have q3 := F.cell 3
        simp at q0 q1 q2 q3
        unfold RetRP
        rw [HRes.out]
        exact bodyPost_ret (v := .tuple #[.agg #[.slice none 0 0, .slice none 0 0, .slice none 0 0, .slice none 0 0], .int .i64 (rr.at_ : Int), .int .i64 (rr.no : Int)]) (by simp [results, Tryz.results20, go_sem, q0, q1, q2, q3]) rfl ⟨1, _, _, _, _, rfl, FB, pgr_nil⟩
  · have g0 : ((no : Int) != 0) = true := by simp; exact hno
    have HRes0 := Lib.hid (readT_fail progP (pg0) hlx hno)
    clear hlx hsm hsz hW1 hs0 hno
    go_enter Tryz.func20, Tryz.ntmps20
    go_upto_region 2 with fail
    rw [← HW1.out]
    go_wp2_with (go_at_call 15; have HY := HLx.out W1; (with_reducible refine HY.mono ?_); clear HY; rintro e w2 ⟨v, rfl, ho, hb⟩; have N2 := Lib.hid (N1.out.below hb N1.out.lt); have R2 := Lib.hid (R1.out.below hb R1.out.lt); have B2 := Lib.hid (thru B1.out hb); have c0 := N2.out.cell 0; have c1 := N2.out.cell 1; have c2 := N2.out.cell 2; have c3 := N2.out.cell 3; simp at c0 c1 c2 c3; have r0 := R2.out.cell 0; have r1 := R2.out.cell 1; have r2 := R2.out.cell 2; have r3 := R2.out.cell 3; have rf0 := R2.out.frozen 0; have rf1 := R2.out.frozen 1; have rf2 := R2.out.frozen 2; have rf3 := R2.out.frozen 3; have rl := R2.out.lt; simp at r0 r1 r2 r3; clear ho hb)
    have F := ((((R2.out.set_ 0 (.slice none 0 0)).set_ 1 (.slice none 0 0)).set_ 2 (.slice none 0 0)).set_ 3 (.slice none 0 0))
    have FB := ((((B2.out.setCell (p := ⟨W.heap.size, 0, none⟩) (Nat.le_refl _) (.slice none 0 0)).setCell (p := ⟨W.heap.size, 1, none⟩) (Nat.le_refl _) (.slice none 0 0)).setCell (p := ⟨W.heap.size, 2, none⟩) (Nat.le_refl _) (.slice none 0 0)).setCell (p := ⟨W.heap.size, 3, none⟩) (Nat.le_refl _) (.slice none 0 0))
    have q0 := F.cell 0
    have q1 := F.cell 1
    have q2 := F.cell 2
    have q3 := F.cell 3
    simp at q0 q1 q2 q3
    unfold RetRP
    rw [show parseT sl = _ from HRes0.out]
    exact bodyPost_ret (v := .tuple #[.agg #[.slice none 0 0, .slice none 0 0, .slice none 0 0, .slice none 0 0], .int .i64 (at' : Int), .int .i64 (no : Int)]) (by simp [results, Tryz.results20, go_sem, q0, q1, q2, q3]) rfl ⟨1, _, _, _, _, rfl, FB, pgr_nil⟩
end
end Go.Proofs.YteaongdlbleehaaGreatDoor

/- The parse layer: Expr and Parse. -/
namespace Go.Proofs.YteaongdlbleehaaGreatDoor
open Go.RowKit
section
variable {B b len k n : Nat} {M : Value} {s : PS} {w : World}
set_option maxHeartbeats 6400000 in
set_option maxRecDepth 100000 in
theorem Expr_any (src : ByteArray) (W : World) : Calls Tryz.prog 16 #[.string src] W (RetRE src.data.toList W) := by
  obtain ⟨x, at', no, hx⟩ : ∃ x at' no, exprT src.data.toList = (x, at', no) := ⟨_, _, _, rfl⟩
  obtain ⟨W0, hW0⟩ : ∃ q, q = W.alloc (.cells #[.string ⟨#[]⟩, .string ⟨#[]⟩, .int .i64 0, .slice none 0 0, .int .i64 0] 52) := ⟨_, rfl⟩
  have B0 : Hid (Below W.heap.size W W0) := Lib.hid (by rw [hW0]; exact (Below.refl _ _).alloc (Nat.le_refl _) _)
  have R0 : Hid (Blk W0 W.heap.size 52 #[.string ⟨#[]⟩, .string ⟨#[]⟩, .int .i64 0, .slice none 0 0, .int .i64 0]) := Lib.hid (by rw [hW0]; exact Blk.new W _ _)
  have HW0 := Lib.hid hW0
  have HRd := Lib.hid (readE_any src W0)
  unfold RetRE at HRd ⊢
  rw [hx] at HRd ⊢
  simp only at HRd
  clear hW0 hx
  go_enter Tryz.func16, Tryz.ntmps16
  go_upto_region 1 with fail
  rw [← HW0.out]
  go_wp2_with (go_at_call 39; have HY := HRd.out; (with_reducible refine HY.mono ?_); clear HY; rintro e w1 ⟨n5, A5, m5, c5, rfl, hb, hi1, hi2, hx1⟩; have R1 := Lib.hid (R0.out.below hb R0.out.lt); have B1 := Lib.hid (thru B0.out hb); have HS := Lib.hid hb.size; have I1 := Lib.hid (And.intro hi1 hi2); have X1 := Lib.hid hx1; clear hi1 hi2 hx1; have r0 := R1.out.cell 0; have r1 := R1.out.cell 1; have r2 := R1.out.cell 2; have r3 := R1.out.cell 3; have r4 := R1.out.cell 4; have rf0 := R1.out.frozen 0; have rf1 := R1.out.frozen 1; have rf2 := R1.out.frozen 2; have rf3 := R1.out.frozen 3; have rf4 := R1.out.frozen 4; have rl := R1.out.lt; simp at r0 r1 r2 r3 r4; clear hb)
  have F := (((((R1.out.set_ 0 (.string x.op)).set_ 1 (.string x.nm)).set_ 2 (.int .i64 x.n)).set_ 3 (.slice A5 m5 c5)).set_ 4 (.int .i64 x.a))
  have FB := (((((B1.out.setCell (p := ⟨W.heap.size, 0, none⟩) (Nat.le_refl _) (.string x.op)).setCell (p := ⟨W.heap.size, 1, none⟩) (Nat.le_refl _) (.string x.nm)).setCell (p := ⟨W.heap.size, 2, none⟩) (Nat.le_refl _) (.int .i64 x.n)).setCell (p := ⟨W.heap.size, 3, none⟩) (Nat.le_refl _) (.slice A5 m5 c5)).setCell (p := ⟨W.heap.size, 4, none⟩) (Nat.le_refl _) (.int .i64 x.a))
  have q0 := F.cell 0
  have q1 := F.cell 1
  have q2 := F.cell 2
  have q3 := F.cell 3
  have q4 := F.cell 4
  simp at q0 q1 q2 q3 q4
  refine bodyPost_ret (v := .tuple #[.agg #[.string x.op, .string x.nm, .int .i64 x.n, .slice A5 m5 c5, .int .i64 x.a], .int .i64 (at' : Int), .int .i64 (no : Int)]) (by simp [results, Tryz.results16, go_sem, q0, q1, q2, q3, q4]) rfl ⟨n5, _, _, _, rfl, FB, I1.out.1, I1.out.2, ?_⟩
  have K5 := five_kept (w := w1) (g := W.heap.size) (.string x.op) (.string x.nm) (.int .i64 x.n) (.slice A5 m5 c5) (.int .i64 x.a)
  exact (X1.out.kept (fun q hq => K5.1 q (Nat.ne_of_gt (Nat.lt_of_lt_of_le R0.out.lt hq.1)))).wide (fun q hq => ⟨Nat.le_trans (Nat.le_of_lt R0.out.lt) hq.1, by rw [K5.2]; exact hq.2⟩)
set_option maxHeartbeats 6400000 in
set_option maxRecDepth 100000 in
theorem Parse_any (src : ByteArray) (W : World) : Calls Tryz.prog 7 #[.string src] W (RetRP src.data.toList W) := by
  obtain ⟨x, at', no, hx⟩ : ∃ x at' no, parseT src.data.toList = (x, at', no) := ⟨_, _, _, rfl⟩
  obtain ⟨W0, hW0⟩ : ∃ q, q = W.alloc (.cells #[.slice none 0 0, .slice none 0 0, .slice none 0 0, .slice none 0 0] 28) := ⟨_, rfl⟩
  have B0 : Hid (Below W.heap.size W W0) := Lib.hid (by rw [hW0]; exact (Below.refl _ _).alloc (Nat.le_refl _) _)
  have R0 : Hid (Blk W0 W.heap.size 28 #[.slice none 0 0, .slice none 0 0, .slice none 0 0, .slice none 0 0]) := Lib.hid (by rw [hW0]; exact Blk.new W _ _)
  have HW0 := Lib.hid hW0
  have HRd := Lib.hid (readP_any src W0)
  unfold RetRP at HRd ⊢
  rw [hx] at HRd ⊢
  simp only at HRd
  clear hW0 hx
  go_enter Tryz.func7, Tryz.ntmps7
  go_upto_region 1 with fail
  rw [← HW0.out]
  go_wp2_with (go_at_call 20; have HY := HRd.out; (with_reducible refine HY.mono ?_); clear HY; rintro e w1 ⟨n5, vE, vV, vP, vM, rfl, hb, hx1⟩; have R1 := Lib.hid (R0.out.below hb R0.out.lt); have B1 := Lib.hid (thru B0.out hb); have HS := Lib.hid hb.size; obtain ⟨AE, cE, rfl, -⟩ := hx1.en.slice; obtain ⟨AV, cV, rfl, -⟩ := hx1.va.slice; obtain ⟨AP, cP, rfl, -⟩ := hx1.pr.slice; obtain ⟨AM, mM, cM, rfl⟩ := str_form hx1.mn; have X1 := Lib.hid hx1; clear hx1; have r0 := R1.out.cell 0; have r1 := R1.out.cell 1; have r2 := R1.out.cell 2; have r3 := R1.out.cell 3; have rf0 := R1.out.frozen 0; have rf1 := R1.out.frozen 1; have rf2 := R1.out.frozen 2; have rf3 := R1.out.frozen 3; have rl := R1.out.lt; simp at r0 r1 r2 r3; clear hb)
  have F := ((((R1.out.set_ 0 (.slice AE x.enums.length cE)).set_ 1 (.slice AV x.vars.length cV)).set_ 2 (.slice AP x.procs.length cP)).set_ 3 (.slice AM mM cM))
  have FB := ((((B1.out.setCell (p := ⟨W.heap.size, 0, none⟩) (Nat.le_refl _) (.slice AE x.enums.length cE)).setCell (p := ⟨W.heap.size, 1, none⟩) (Nat.le_refl _) (.slice AV x.vars.length cV)).setCell (p := ⟨W.heap.size, 2, none⟩) (Nat.le_refl _) (.slice AP x.procs.length cP)).setCell (p := ⟨W.heap.size, 3, none⟩) (Nat.le_refl _) (.slice AM mM cM))
  have q0 := F.cell 0
  have q1 := F.cell 1
  have q2 := F.cell 2
  have q3 := F.cell 3
  simp at q0 q1 q2 q3
  refine bodyPost_ret (v := .tuple #[.agg #[.slice AE x.enums.length cE, .slice AV x.vars.length cV, .slice AP x.procs.length cP, .slice AM mM cM], .int .i64 (at' : Int), .int .i64 (no : Int)]) (by simp [results, Tryz.results7, go_sem, q0, q1, q2, q3]) rfl ⟨n5, _, _, _, _, rfl, FB, ?_⟩
  have K5 := four_kept (w := w1) (g := W.heap.size) (.slice AE x.enums.length cE) (.slice AV x.vars.length cV) (.slice AP x.procs.length cP) (.slice AM mM cM) 0 1 2 3
  exact (X1.out.kept (fun q hq => K5.1 q (Nat.ne_of_gt (Nat.lt_of_lt_of_le R0.out.lt hq.1)))).wide (fun q hq => ⟨Nat.le_trans (Nat.le_of_lt R0.out.lt) hq.1, by rw [K5.2]; exact hq.2⟩)
end
end Go.Proofs.YteaongdlbleehaaGreatDoor
