/- The parse layer: the parser's small methods. -/
import Derived.Test.YteaongdlbleehaaGreatDoorPsBase
import Derived.Test.YteaongdlbleehaaGreatDoorGTrPg
namespace Go.Proofs.YteaongdlbleehaaGreatDoor
open Go.RowKit
theorem bA_list (l : Bs) : (bA l).toList = l := by rw [ByteArray.toList_eq]
/-- A token as a value. -/
abbrev tkV (t : Tok) : Value := .agg #[.int .i64 (t.kind : Int), .string (bA t.text), .int .i64 (t.n : Int), .int .i64 (t.at_ : Int)]
/-- What a method of the parser tells. -/
def RetP (B b len : Nat) (M : Value) (k d : Nat) (v : Value) (s : PS) (w : World) (e : Ending) (w' : World) : Prop := e = .returned v ∧ Par B b len M k d s w' ∧ Pd b w w'
section
variable {B b len k d : Nat} {M : Value} {s : PS} {w : World}
theorem good_fail (e : Nat) (h : s.good) : (failF len e s).good := by
  unfold failF; split
  · exact fun _ => rfl
  · exact h
theorem good_take (h : s.good) : (takeF s).good := fun e => by
  have : s.no ≠ 0 := e
  show s.ts.tail = []
  rw [h this]; rfl
theorem nxt_nil (h : s.ts = []) : nxt len s = ⟨2, [], 0, len⟩ := by unfold nxt; rw [h]
theorem nxt_cons {t : Tok} {r : List Tok} (h : s.ts = t :: r) : nxt len s = t := by unfold nxt; rw [h]
theorem take_nil (h : s.ts = []) : takeF s = s := by
  cases s; simp only at h; subst h; rfl
set_option maxHeartbeats 3200000 in
set_option maxRecDepth 100000 in
theorem next_any (h : Par B b len M k d s w) : Calls Tryz.prog 86 #[.pointer (some ⟨b, 0, none⟩)] w fun e w' => e = .returned (tkV (nxt len s)) ∧ Below w.heap.size w w' := by
  obtain ⟨A, cap, hB, hcap, hlen, hR⟩ := h.mem
  have c0 := (Blk.below hB ((Below.refl w.heap.size w).alloc (Nat.le_refl _) (.cells #[.int .i64 0, .string ⟨#[]⟩, .int .i64 0, .int .i64 0] 49)) hB.lt).cell 0
  have c1 := (Blk.below hB ((Below.refl w.heap.size w).alloc (Nat.le_refl _) (.cells #[.int .i64 0, .string ⟨#[]⟩, .int .i64 0, .int .i64 0] 49)) hB.lt).cell 1
  cases hs : s.ts with
  | nil =>
    rw [nxt_nil hs]
    rw [hs] at c0
    simp at c0 c1
    have HB := Lib.hid hB
    clear hB hR hs hcap hlen
    go_enter Tryz.func86, Tryz.ntmps86
    go_wp2
    exact bodyPost_ret (v := tkV ⟨2, [], 0, len⟩) (by simp [results, Tryz.results86, go_sem]) rfl ⟨rfl, (Below.refl _ _).alloc (Nat.le_refl _) _⟩
  | cons t r =>
    rw [nxt_cons hs]
    rw [hs] at c0 hR
    obtain ⟨g, off, rfl, hg, t0, t1, t2, t3⟩ := hR.head
    have hgl : g < w.heap.size := Nat.lt_of_lt_of_le hg (Nat.le_trans h.lo (Nat.le_of_lt hB.lt))
    have q := (Below.refl w.heap.size w).alloc (Nat.le_refl _) (.cells #[.int .i64 0, .string ⟨#[]⟩, .int .i64 0, .int .i64 0] 49)
    have u0 := (q.cell (p := ⟨g, off, none⟩) hgl).trans t0
    have u1 := (q.cell (p := ⟨g, off + 1, none⟩) hgl).trans t1
    have u2 := (q.cell (p := ⟨g, off + 2, none⟩) hgl).trans t2
    have u3 := (q.cell (p := ⟨g, off + 3, none⟩) hgl).trans t3
    have g0 : ((r.length : Int) + 1 == 0) = false := by simp; omega
    have g1 : 0 < r.length + 1 := Nat.succ_pos _
    simp at c0
    clear hB hR hs hcap hlen t0 t1 t2 t3 q c1
    go_enter Tryz.func86, Tryz.ntmps86
    go_wp2
    exact bodyPost_ret (v := tkV t) (by simp [results, Tryz.results86, go_sem]) rfl ⟨rfl, (Below.refl _ _).alloc (Nat.le_refl _) _⟩
/-- A result that lies in a box of a token's. -/
theorem tok_box {W0 : World} {g : Nat} (h : Blk W0 g 49 #[.int .i64 0, .string ⟨#[]⟩, .int .i64 0, .int .i64 0]) (a : Int) (x : ByteArray) (c d : Int) : Blk ((((W0.setCell ⟨g, 0, none⟩ (.int .i64 a)).setCell ⟨g, 1, none⟩ (.string x)).setCell ⟨g, 2, none⟩ (.int .i64 c)).setCell ⟨g, 3, none⟩ (.int .i64 d)) g 49 #[.int .i64 a, .string x, .int .i64 c, .int .i64 d] := (((h.set_ 0 _).set_ 1 _).set_ 2 _).set_ 3 _
set_option maxHeartbeats 6400000 in
set_option maxRecDepth 100000 in
theorem take_any (h : Par B b len M k d s w) : Calls Tryz.prog 101 #[.pointer (some ⟨b, 0, none⟩)] w (RetP B b len M k d (tkV (nxt len s)) (takeF s) w) := by
  obtain ⟨W0, hW0⟩ : ∃ W0, W0 = w.alloc (.cells #[.int .i64 0, .string ⟨#[]⟩, .int .i64 0, .int .i64 0] 49) := ⟨_, rfl⟩
  have B0 : Hid (Below w.heap.size w W0) := Lib.hid (by rw [hW0]; exact (Below.refl _ _).alloc (Nat.le_refl _) _)
  have K0 : Hid (Blk W0 w.heap.size 49 #[.int .i64 0, .string ⟨#[]⟩, .int .i64 0, .int .i64 0]) := Lib.hid (by rw [hW0]; exact Blk.new w _ _)
  have P0 := Lib.hid (h.below B0.out)
  have HW0 := Lib.hid hW0
  obtain ⟨kd, hkd⟩ : ∃ q : Int, q = ((nxt len s).kind : Int) := ⟨_, rfl⟩
  obtain ⟨tx, htx⟩ : ∃ q, q = bA (nxt len s).text := ⟨_, rfl⟩
  obtain ⟨nn, hnn⟩ : ∃ q : Int, q = ((nxt len s).n : Int) := ⟨_, rfl⟩
  obtain ⟨aa, haa⟩ : ∃ q : Int, q = ((nxt len s).at_ : Int) := ⟨_, rfl⟩
  have HN := Lib.hid (next_any P0.out)
  unfold tkV
  unfold tkV at HN
  rw [← hkd, ← htx, ← hnn, ← haa] at HN ⊢
  have hbw : b ≠ w.heap.size := Nat.ne_of_lt h.lt
  have hBw : B ≤ w.heap.size := Nat.le_trans h.lo (Nat.le_of_lt h.lt)
  have HG := Lib.hid (And.intro hbw hBw)
  clear hW0 hkd htx hnn haa hbw hBw h
  go_enter Tryz.func101, Tryz.ntmps101
  go_upto_region 1 with fail
  rw [← HW0.out]
  go_upto_region 2 with (go_at_call 86; have HX := HN.out; (with_reducible refine HX.mono ?_); clear HX; rintro e w1 ⟨rfl, hb⟩; have B1 := Lib.hid (thru B0.out hb); have P1 := Lib.hid (P0.out.below hb); have K1 := Lib.hid (K0.out.below hb K0.out.lt); clear hb)
  obtain ⟨W2, hW2⟩ : ∃ W2, W2 = w1.alloc (.cells #[.int .i64 kd, .string tx, .int .i64 nn, .int .i64 aa] 49) := ⟨_, rfl⟩
  have E2 : Hid (Below w1.heap.size w1 W2) := Lib.hid (by rw [hW2]; exact (Below.refl _ _).alloc (Nat.le_refl _) _)
  have B2 := Lib.hid (thru B1.out E2.out)
  have P2 := Lib.hid (P1.out.below E2.out)
  have K2 := Lib.hid (K1.out.below E2.out K1.out.lt)
  have T2 : Hid (Blk W2 w1.heap.size 49 #[.int .i64 kd, .string tx, .int .i64 nn, .int .i64 aa]) := Lib.hid (by rw [hW2]; exact Blk.new w1 _ _)
  rw [← hW2]
  have hgt : w.heap.size ≠ w1.heap.size := Nat.ne_of_lt K1.out.lt
  have HT := Lib.hid hgt
  clear hW2 hgt
  obtain ⟨A, cap, hB, hcap, hlen, hR⟩ := P2.out.mem
  cases hs : s.ts with
  | nil =>
    have c0 := hB.cell 0
    rw [hs] at c0
    simp at c0
    have t0 := T2.out.cell 0
    have t1 := T2.out.cell 1
    have t2 := T2.out.cell 2
    have t3 := T2.out.cell 3
    have r0 := K2.out.cell 0
    have r1 := K2.out.cell 1
    have r2 := K2.out.cell 2
    have r3 := K2.out.cell 3
    have f0 := K2.out.frozen 0
    have f1 := K2.out.frozen 1
    have f2 := K2.out.frozen 2
    have f3 := K2.out.frozen 3
    have fl := K2.out.lt
    simp at t0 t1 t2 t3 r0 r1 r2 r3
    have HE := Lib.hid (take_nil hs)
    clear hB hcap hlen hR hs
    go_wp2
    have q := tok_box K2.out kd tx nn aa
    have q0 := q.cell 0
    have q1 := q.cell 1
    have q2 := q.cell 2
    have q3 := q.cell 3
    simp at q0 q1 q2 q3
    refine bodyPost_ret (v := .agg #[.int .i64 kd, .string tx, .int .i64 nn, .int .i64 aa]) (by simp [results, Tryz.results101, go_sem, q0, q1, q2, q3]) rfl ⟨rfl, ?_, ?_⟩
    · rw [HE.out]
      exact (((P2.out.far HG.out.1 HG.out.2 _).far HG.out.1 HG.out.2 _).far HG.out.1 HG.out.2 _).far HG.out.1 HG.out.2 _
    · exact ((((Pd.of_below B2.out b).fresh (p := ⟨w.heap.size, 0, none⟩) (Nat.le_refl _) _).fresh (p := ⟨w.heap.size, 1, none⟩) (Nat.le_refl _) _).fresh (p := ⟨w.heap.size, 2, none⟩) (Nat.le_refl _) _).fresh (p := ⟨w.heap.size, 3, none⟩) (Nat.le_refl _) _
  | cons t r =>
    rw [hs] at hR hcap hB
    obtain ⟨g, off, rfl, hg, -⟩ := hR.head
    have c0 := hB.cell 0
    have b0 := hB.frozen 0
    have bl := hB.lt
    simp at c0
    simp only [List.length_cons] at hcap
    have g0 : decide ((0 : Int) < (r.length : Int) + 1) = true := decide_eq_true (by omega)
    have g1 : 1 ≤ cap := by omega
    have hrc : r.length ≤ cap - 1 := by omega
    have HTl := Lib.hid hR.tail
    have hS := Lib.hid hs
    by_cases hc1 : cap = 1
    · subst hc1
      have hr0 : r = [] := List.length_eq_zero_iff.1 (by omega)
      subst hr0
      have P3 : Hid (Par B b len M k d (takeF s) (W2.setCell ⟨b, 0, none⟩ (.slice (some ⟨g, off, none⟩) 0 0))) := Lib.hid (P2.out.next_ (A' := some ⟨g, off, none⟩) (cap' := 0) hS.out (Nat.zero_le _) (TokR.nil _ _ _))
      have K3 : Hid (Blk (W2.setCell ⟨b, 0, none⟩ (.slice (some ⟨g, off, none⟩) 0 0)) w.heap.size 49 #[.int .i64 0, .string ⟨#[]⟩, .int .i64 0, .int .i64 0]) := Lib.hid (K2.out.far (p := ⟨b, 0, none⟩) HG.out.1.symm _)
      have T3 : Hid (Blk (W2.setCell ⟨b, 0, none⟩ (.slice (some ⟨g, off, none⟩) 0 0)) w1.heap.size 49 #[.int .i64 kd, .string tx, .int .i64 nn, .int .i64 aa]) := Lib.hid (T2.out.far (p := ⟨b, 0, none⟩) (Nat.ne_of_gt P1.out.lt) _)
      have D3 : Hid (Pd b w (W2.setCell ⟨b, 0, none⟩ (.slice (some ⟨g, off, none⟩) 0 0))) := Lib.hid ((Pd.of_below B2.out b).setCell (p := ⟨b, 0, none⟩) rfl _)
      clear hB hcap hlen hR hs hg hrc
      go_upto_region 4 with fail
      generalize hW3 : W2.setCell _ _ = W3 at P3 K3 T3 D3 ⊢
      clear hW3
      have t0 := T3.out.cell 0
      have t1 := T3.out.cell 1
      have t2 := T3.out.cell 2
      have t3 := T3.out.cell 3
      have r0 := K3.out.cell 0
      have r1 := K3.out.cell 1
      have r2 := K3.out.cell 2
      have r3 := K3.out.cell 3
      have f0 := K3.out.frozen 0
      have f1 := K3.out.frozen 1
      have f2 := K3.out.frozen 2
      have f3 := K3.out.frozen 3
      have fl := K3.out.lt
      simp at t0 t1 t2 t3 r0 r1 r2 r3
      clear c0 b0 bl
      go_wp2
      have q := tok_box K3.out kd tx nn aa
      have q0 := q.cell 0
      have q1 := q.cell 1
      have q2 := q.cell 2
      have q3 := q.cell 3
      simp at q0 q1 q2 q3
      refine bodyPost_ret (v := .agg #[.int .i64 kd, .string tx, .int .i64 nn, .int .i64 aa]) (by simp [results, Tryz.results101, go_sem, q0, q1, q2, q3]) rfl ⟨rfl, ?_, ?_⟩
      · exact (((P3.out.far HG.out.1 HG.out.2 _).far HG.out.1 HG.out.2 _).far HG.out.1 HG.out.2 _).far HG.out.1 HG.out.2 _
      · exact (((D3.out.fresh (p := ⟨w.heap.size, 0, none⟩) (Nat.le_refl _) _).fresh (p := ⟨w.heap.size, 1, none⟩) (Nat.le_refl _) _).fresh (p := ⟨w.heap.size, 2, none⟩) (Nat.le_refl _) _).fresh (p := ⟨w.heap.size, 3, none⟩) (Nat.le_refl _) _
    · have hc2 : (cap == 1) = false := by simp; exact hc1
      have P3 : Hid (Par B b len M k d (takeF s) (W2.setCell ⟨b, 0, none⟩ (.slice (some ⟨g, off + 4, none⟩) r.length (cap - 1)))) := Lib.hid (P2.out.next_ hS.out hrc HTl.out)
      have K3 : Hid (Blk (W2.setCell ⟨b, 0, none⟩ (.slice (some ⟨g, off + 4, none⟩) r.length (cap - 1))) w.heap.size 49 #[.int .i64 0, .string ⟨#[]⟩, .int .i64 0, .int .i64 0]) := Lib.hid (K2.out.far (p := ⟨b, 0, none⟩) HG.out.1.symm _)
      have T3 : Hid (Blk (W2.setCell ⟨b, 0, none⟩ (.slice (some ⟨g, off + 4, none⟩) r.length (cap - 1))) w1.heap.size 49 #[.int .i64 kd, .string tx, .int .i64 nn, .int .i64 aa]) := Lib.hid (T2.out.far (p := ⟨b, 0, none⟩) (Nat.ne_of_gt P1.out.lt) _)
      have D3 : Hid (Pd b w (W2.setCell ⟨b, 0, none⟩ (.slice (some ⟨g, off + 4, none⟩) r.length (cap - 1)))) := Lib.hid ((Pd.of_below B2.out b).setCell (p := ⟨b, 0, none⟩) rfl _)
      clear hB hcap hlen hR hs hg
      go_upto_region 4 with fail
      generalize hW3 : W2.setCell _ _ = W3 at P3 K3 T3 D3 ⊢
      clear hW3
      have t0 := T3.out.cell 0
      have t1 := T3.out.cell 1
      have t2 := T3.out.cell 2
      have t3 := T3.out.cell 3
      have r0 := K3.out.cell 0
      have r1 := K3.out.cell 1
      have r2 := K3.out.cell 2
      have r3 := K3.out.cell 3
      have f0 := K3.out.frozen 0
      have f1 := K3.out.frozen 1
      have f2 := K3.out.frozen 2
      have f3 := K3.out.frozen 3
      have fl := K3.out.lt
      simp at t0 t1 t2 t3 r0 r1 r2 r3
      clear c0 b0 bl
      go_wp2
      have q := tok_box K3.out kd tx nn aa
      have q0 := q.cell 0
      have q1 := q.cell 1
      have q2 := q.cell 2
      have q3 := q.cell 3
      simp at q0 q1 q2 q3
      refine bodyPost_ret (v := .agg #[.int .i64 kd, .string tx, .int .i64 nn, .int .i64 aa]) (by simp [results, Tryz.results101, go_sem, q0, q1, q2, q3]) rfl ⟨rfl, ?_, ?_⟩
      · exact (((P3.out.far HG.out.1 HG.out.2 _).far HG.out.1 HG.out.2 _).far HG.out.1 HG.out.2 _).far HG.out.1 HG.out.2 _
      · exact (((D3.out.fresh (p := ⟨w.heap.size, 0, none⟩) (Nat.le_refl _) _).fresh (p := ⟨w.heap.size, 1, none⟩) (Nat.le_refl _) _).fresh (p := ⟨w.heap.size, 2, none⟩) (Nat.le_refl _) _).fresh (p := ⟨w.heap.size, 3, none⟩) (Nat.le_refl _) _
theorem field_at (a : Int) (x : ByteArray) (c d : Int) (W : World) : Sem.run Tryz.prog (Instr.field 49 (.agg #[.int .i64 a, .string x, .int .i64 c, .int .i64 d]) 3) W = Result.ok (.int .i64 d) W := by kernel_rfl
theorem field_tx (a : Int) (x : ByteArray) (c d : Int) (W : World) : Sem.run Tryz.prog (Instr.field 49 (.agg #[.int .i64 a, .string x, .int .i64 c, .int .i64 d]) 1) W = Result.ok (.string x) W := by kernel_rfl
theorem field_nn (a : Int) (x : ByteArray) (c d : Int) (W : World) : Sem.run Tryz.prog (Instr.field 49 (.agg #[.int .i64 a, .string x, .int .i64 c, .int .i64 d]) 2) W = Result.ok (.int .i64 c) W := by kernel_rfl
attribute [local go_sem] field_at field_tx field_nn
set_option maxHeartbeats 6400000 in
set_option maxRecDepth 100000 in
theorem fail_any {e : Nat} (h : Par B b len M k d s w) : Calls Tryz.prog 48 #[.pointer (some ⟨b, 0, none⟩), .int .i64 (e : Int)] w (RetP B b len M k d (.tuple #[]) (failF len e s) w) := by
  obtain ⟨A, cap, hB, hcap, hlen, hR⟩ := h.mem
  have c3 := hB.cell 3
  simp at c3
  by_cases h0 : s.no = 0
  · have HE : Hid (failF len e s = ⟨[], (nxt len s).at_, e⟩) := Lib.hid (by unfold failF; rw [if_pos h0])
    have g0 : ((s.no : Int) != 0) = false := by rw [h0]; rfl
    have HN := Lib.hid (next_any h)
    unfold tkV at HN
    obtain ⟨aa, haa⟩ : ∃ q, q = (nxt len s).at_ := ⟨_, rfl⟩
    have hab : aa ≤ 4096 := by rw [haa]; exact (nxt_b h.hl h.tb).1
    rw [← haa] at HE HN
    have HP := Lib.hid h
    clear hR hcap hlen h haa h0
    go_enter Tryz.func48, Tryz.ntmps48
    go_wp2_with (go_at_call 86; have HX := HN.out; (with_reducible refine HX.mono ?_); clear HX; rintro e w1 ⟨rfl, hb⟩; have P1 := Lib.hid (HP.out.below hb); have D1 := Lib.hid (Pd.of_below hb b); have K1 := Lib.hid (hB.below hb hB.lt); have q2 := K1.out.cell 2; have q3 := K1.out.cell 3; have q0 := K1.out.cell 0; have f2 := K1.out.frozen 2; have f3 := K1.out.frozen 3; have f0 := K1.out.frozen 0; have fl := K1.out.lt; simp at q0 q2 q3; clear hb c3)
    go_end0
    exact ⟨rfl, by rw [HE.out]; exact P1.out.none_ hab, ((D1.out.setCell (p := ⟨b, 2, none⟩) rfl _).setCell (p := ⟨b, 3, none⟩) rfl _).setCell (p := ⟨b, 0, none⟩) rfl _⟩
  · have HE : Hid (failF len e s = s) := Lib.hid (by unfold failF; rw [if_neg h0])
    have g0 : ((s.no : Int) != 0) = true := by simp; omega
    clear h0
    go_enter Tryz.func48, Tryz.ntmps48
    go_wp2
    go_end0
    exact ⟨rfl, by rw [HE.out]; exact h, Pd.refl _ _⟩
theorem fail_p (h : Par B b len M k d s w) : Calls Tryz.prog 48 #[.pointer (some ⟨b, 0, none⟩), .int .i64 130] w (RetP B b len M k d (.tuple #[]) (failF len 130 s) w) := fail_any (e := 130) h
theorem fail_d (h : Par B b len M k d s w) : Calls Tryz.prog 48 #[.pointer (some ⟨b, 0, none⟩), .int .i64 131] w (RetP B b len M k d (.tuple #[]) (failF len 131 s) w) := fail_any (e := 131) h
set_option maxHeartbeats 6400000 in
set_option maxRecDepth 100000 in
theorem is_any (t : Bs) (h : Par B b len M k d s w) : Calls Tryz.prog 49 #[.pointer (some ⟨b, 0, none⟩), .string (bA t)] w fun e w' => e = .returned (.bool (isF len t s)) ∧ Below w.heap.size w w' := by
  have HN := Lib.hid (next_any h)
  unfold tkV at HN
  have HE : Hid (((bA (nxt len s).text).toList == (bA t).toList) = isF len t s) := Lib.hid (by rw [bA_list, bA_list]; rfl)
  generalize bA (nxt len s).text = tx at HN HE
  generalize bA t = tt at HE ⊢
  go_enter Tryz.func49, Tryz.ntmps49
  go_wp2_with (go_at_call 86; have HX := HN.out; (with_reducible refine HX.mono ?_); clear HX; rintro e w1 ⟨rfl, hb⟩; have B1 := Lib.hid hb; clear hb)
  go_ret
  exact ⟨ret_bool HE.out, B1.out⟩
/-- Behind a text that may be there. -/
def skipF (len : Nat) (t : Bs) (s : PS) : PS := if isF len t s then takeF s else s
set_option maxHeartbeats 6400000 in
set_option maxRecDepth 100000 in
theorem skip_any (t : Bs) (h : Par B b len M k d s w) : Calls Tryz.prog 87 #[.pointer (some ⟨b, 0, none⟩), .string (bA t)] w (RetP B b len M k d (.bool (isF len t s)) (skipF len t s) w) := by
  have HN := Lib.hid (is_any t h)
  have HP := Lib.hid h
  cases hi : isF len t s
  · rw [hi] at HN
    have HE : Hid (skipF len t s = s) := Lib.hid (by unfold skipF; rw [hi]; rfl)
    go_enter Tryz.func87, Tryz.ntmps87
    go_wp2_with (go_at_call 49; have HX := HN.out; (with_reducible refine HX.mono ?_); clear HX; rintro e w1 ⟨rfl, hb⟩; have P1 := Lib.hid (HP.out.below hb); have D1 := Lib.hid (Pd.of_below hb b); clear hb)
    go_ret
    exact ⟨rfl, by rw [HE.out]; exact P1.out, D1.out⟩
  · rw [hi] at HN
    have HE : Hid (skipF len t s = takeF s) := Lib.hid (by unfold skipF; rw [hi]; rfl)
    go_enter Tryz.func87, Tryz.ntmps87
    go_wp2_with (first
      | (go_at_call 49; have HX := HN.out; (with_reducible refine HX.mono ?_); clear HX; rintro e w1 ⟨rfl, hb⟩; have P1 := Lib.hid (HP.out.below hb); have D1 := Lib.hid (Pd.of_below hb b); clear hb)
      | (go_at_call 101; have HX := take_any P1.out; (with_reducible refine HX.mono ?_); clear HX; rintro e w2 ⟨rfl, hp, hd⟩; have P2 := Lib.hid hp; have D2 := Lib.hid (D1.out.trans hd); clear hp hd))
    go_ret
    exact ⟨rfl, by rw [HE.out]; exact P2.out, D2.out⟩
set_option maxHeartbeats 6400000 in
set_option maxRecDepth 100000 in
theorem expect_any (t : Bs) (h : Par B b len M k d s w) : Calls Tryz.prog 51 #[.pointer (some ⟨b, 0, none⟩), .string (bA t)] w (RetP B b len M k d (.tuple #[]) (expF len t s) w) := by
  have HN := Lib.hid (skip_any t h)
  cases hi : isF len t s
  · rw [hi] at HN
    have HE : Hid (expF len t s = failF len 130 (skipF len t s)) := Lib.hid (by unfold expF skipF; rw [hi]; rfl)
    go_enter Tryz.func51, Tryz.ntmps51
    go_wp2_with (first
      | (go_at_call 87; have HX := HN.out; (with_reducible refine HX.mono ?_); clear HX; rintro e w1 ⟨rfl, hp, hd⟩; have P1 := Lib.hid hp; have D1 := Lib.hid hd; clear hp hd)
      | (go_at_call 48; have HX := fail_p P1.out; (with_reducible refine HX.mono ?_); clear HX; rintro e w2 ⟨rfl, hp, hd⟩; have P2 := Lib.hid hp; have D2 := Lib.hid (D1.out.trans hd); clear hp hd))
    go_end0
    exact ⟨rfl, by rw [HE.out]; exact P2.out, D2.out⟩
  · rw [hi] at HN
    have HE : Hid (expF len t s = skipF len t s) := Lib.hid (by unfold expF skipF; rw [hi]; rfl)
    go_enter Tryz.func51, Tryz.ntmps51
    go_wp2_with (go_at_call 87; have HX := HN.out; (with_reducible refine HX.mono ?_); clear HX; rintro e w1 ⟨rfl, hp, hd⟩; have P1 := Lib.hid hp; have D1 := Lib.hid hd; clear hp hd)
    go_end0
    exact ⟨rfl, by rw [HE.out]; exact P1.out, D1.out⟩
theorem res_facts {t : Bs} (h : resL.contains t = false) : (t == [101, 110, 117, 109]) = false ∧ (t == [118, 97, 114]) = false ∧ (t == [112, 114, 111, 99]) = false ∧ (t == [109, 97, 105, 110]) = false ∧ (t == [105, 102]) = false ∧ (t == [101, 108, 115, 101]) = false ∧ (t == [119, 104, 105, 108, 101]) = false ∧ (t == [97, 115, 115, 101, 114, 116]) = false ∧ (t == [97, 115, 115, 117, 109, 101]) = false ∧ (t == [99, 97, 108, 108]) = false ∧ (t == [115, 107, 105, 112]) = false ∧ (t == [105, 110, 112, 117, 116]) = false ∧ (t == [116, 114, 117, 101]) = false ∧ (t == [102, 97, 108, 115, 101]) = false ∧ (t == [105, 110, 116]) = false ∧ (t == [98, 111, 111, 108]) = false := by
  unfold resL at h
  simp only [List.contains_cons, List.contains_nil, Bool.or_eq_false_iff] at h
  obtain ⟨h0, h1, h2, h3, h4, h5, h6, h7, h8, h9, h10, h11, h12, h13, h14, h15, -⟩ := h
  exact ⟨h0, h1, h2, h3, h4, h5, h6, h7, h8, h9, h10, h11, h12, h13, h14, h15⟩
set_option maxHeartbeats 6400000 in
set_option maxRecDepth 100000 in
theorem reserved_any (t : Bs) (w : World) : Calls Tryz.prog 19 #[.string (bA t)] w fun e w' => e = .returned (.bool (resL.contains t)) ∧ w = w' := by
  cases hr : resL.contains t
  · obtain ⟨h0, h1, h2, h3, h4, h5, h6, h7, h8, h9, h10, h11, h12, h13, h14, h15⟩ := res_facts hr
    rw [← bA_list t] at h0 h1 h2 h3 h4 h5 h6 h7 h8 h9 h10 h11 h12 h13 h14 h15
    generalize bA t = tt at *
    go_enter Tryz.func19, Tryz.ntmps19
    go_wp2
    go_ret
    exact ⟨rfl, rfl⟩
  · have hm : t ∈ resL := List.contains_iff_mem.1 hr
    clear hr
    simp only [resL, List.mem_cons, List.not_mem_nil, or_false] at hm
    rcases hm with rfl | rfl | rfl | rfl | rfl | rfl | rfl | rfl | rfl | rfl | rfl | rfl | rfl | rfl | rfl | rfl
    all_goals (go_enter Tryz.func19, Tryz.ntmps19; go_wp2; go_ret; exact ⟨rfl, rfl⟩)
theorem lev_cases (t : Bs) : ((t == [124, 124]) = false ∧ (t == [38, 38]) = false ∧ (t == [61, 61]) = false ∧ (t == [33, 61]) = false ∧ (t == [60]) = false ∧ (t == [60, 61]) = false ∧ (t == [62]) = false ∧ (t == [62, 61]) = false ∧ (t == [43]) = false ∧ (t == [45]) = false ∧ (t == [42]) = false ∧ (t == [47]) = false ∧ levL t = 0) ∨ t = [124, 124] ∨ t = [38, 38] ∨ t = [61, 61] ∨ t = [33, 61] ∨ t = [60] ∨ t = [60, 61] ∨ t = [62] ∨ t = [62, 61] ∨ t = [43] ∨ t = [45] ∨ t = [42] ∨ t = [47] := by
  by_cases h : t = [124, 124] ∨ t = [38, 38] ∨ t = [61, 61] ∨ t = [33, 61] ∨ t = [60] ∨ t = [60, 61] ∨ t = [62] ∨ t = [62, 61] ∨ t = [43] ∨ t = [45] ∨ t = [42] ∨ t = [47]
  · exact .inr h
  · simp only [not_or] at h
    obtain ⟨h0, h1, h2, h3, h4, h5, h6, h7, h8, h9, h10, h11⟩ := h
    have q : ∀ {l : Bs}, ¬ t = l → (t == l) = false := fun h => by simpa using h
    refine .inl ⟨q h0, q h1, q h2, q h3, q h4, q h5, q h6, q h7, q h8, q h9, q h10, q h11, ?_⟩
    unfold levL
    rw [q h0, q h1, q h8, q h9, q h10, q h11]
    simp [h2, h3, h4, h5, h6, h7]
set_option maxHeartbeats 6400000 in
set_option maxRecDepth 100000 in
theorem level_any (t : Bs) (w : World) : Calls Tryz.prog 100 #[.string (bA t)] w fun e w' => e = .returned (.int .i64 (levL t : Int)) ∧ w = w' := by
  rcases lev_cases t with ⟨h0, h1, h2, h3, h4, h5, h6, h7, h8, h9, h10, h11, hl⟩ | rfl | rfl | rfl | rfl | rfl | rfl | rfl | rfl | rfl | rfl | rfl | rfl
  · rw [hl]
    rw [← bA_list t] at h0 h1 h2 h3 h4 h5 h6 h7 h8 h9 h10 h11
    generalize bA t = tt at *
    clear hl
    go_enter Tryz.func100, Tryz.ntmps100
    go_wp2
    go_ret
    exact ⟨rfl, rfl⟩
  all_goals (go_enter Tryz.func100, Tryz.ntmps100; go_wp2; go_ret; exact ⟨rfl, rfl⟩)
set_option maxHeartbeats 6400000 in
set_option maxRecDepth 100000 in
theorem isName_any (t : Tok) (w : World) : Calls Tryz.prog 112 #[tkV t] w fun e w' => e = .returned (.bool (isNm t)) ∧ Below w.heap.size w w' := by
  obtain ⟨W0, hW0⟩ : ∃ W0, W0 = w.alloc (.cells #[.int .i64 (t.kind : Int), .string (bA t.text), .int .i64 (t.n : Int), .int .i64 (t.at_ : Int)] 49) := ⟨_, rfl⟩
  have B0 : Hid (Below w.heap.size w W0) := Lib.hid (by rw [hW0]; exact (Below.refl _ _).alloc (Nat.le_refl _) _)
  have K0 : Hid (Blk W0 w.heap.size 49 #[.int .i64 (t.kind : Int), .string (bA t.text), .int .i64 (t.n : Int), .int .i64 (t.at_ : Int)]) := Lib.hid (by rw [hW0]; exact Blk.new w _ _)
  have HW0 := Lib.hid hW0
  have HR := Lib.hid (reserved_any t.text W0)
  obtain ⟨rs, hrs⟩ : ∃ q, q = resL.contains t.text := ⟨_, rfl⟩
  obtain ⟨kk, hkk⟩ : ∃ q, q = t.kind := ⟨_, rfl⟩
  have HI : Hid (isNm t = ((kk == 0) && !rs)) := Lib.hid (by rw [hkk, hrs]; rfl)
  rw [← hrs] at HR
  have c0 := K0.out.cell 0
  have c1 := K0.out.cell 1
  simp at c0 c1
  rw [← hkk] at c0
  generalize bA t.text = tx at HR c1
  clear hW0 hrs hkk
  by_cases h0 : kk = 0
  · have g0 : ((kk : Int) == 0) = true := by rw [h0]; rfl
    have HI2 : Hid (isNm t = !rs) := Lib.hid (by rw [HI.out, h0]; rfl)
    clear h0
    go_enter Tryz.func112, Tryz.ntmps112
    go_upto_region 1 with fail
    rw [← HW0.out]
    go_wp2_with (go_at_call 19; have HX := HR.out; (with_reducible refine HX.mono ?_); clear HX; rintro e w1 ⟨rfl, rfl⟩)
    go_ret
    exact ⟨ret_bool (by rw [HI2.out]), B0.out⟩
  · have g0 : ((kk : Int) == 0) = false := by simp; omega
    have HI2 : Hid (isNm t = false) := Lib.hid (by rw [HI.out]; simp [h0])
    clear h0
    go_enter Tryz.func112, Tryz.ntmps112
    go_upto_region 1 with fail
    rw [← HW0.out]
    go_wp2
    go_ret
    exact ⟨by rw [HI2.out]; try rfl, B0.out⟩
set_option maxHeartbeats 6400000 in
set_option maxRecDepth 100000 in
theorem name_any (h : Par B b len M k d s w) : Calls Tryz.prog 90 #[.pointer (some ⟨b, 0, none⟩)] w (RetP B b len M k d (.string (bA (nameF len s).2)) (nameF len s).1 w) := by
  have HN := Lib.hid (next_any h)
  have HP := Lib.hid h
  obtain ⟨t, ht⟩ : ∃ t, t = nxt len s := ⟨_, rfl⟩
  have HI : Hid (∀ w, Calls Tryz.prog 112 #[tkV t] w fun e w' => e = .returned (.bool (isNm t)) ∧ Below w.heap.size w w') := Lib.hid (isName_any t)
  rw [← ht] at HN
  unfold tkV at HN HI
  cases hi : isNm t
  · rw [hi] at HI
    have HE : Hid (nameF len s = (failF len 130 s, [])) := Lib.hid (by unfold nameF; rw [← ht, hi]; rfl)
    clear ht hi h
    go_enter Tryz.func90, Tryz.ntmps90
    go_wp2_with (first
      | (go_at_call 86; have HX := HN.out; (with_reducible refine HX.mono ?_); clear HX; rintro e w1 ⟨rfl, hb⟩; have P1 := Lib.hid (HP.out.below hb); have D1 := Lib.hid (Pd.of_below hb b); clear hb)
      | (go_at_call 112; have HX := HI.out w1; (with_reducible refine HX.mono ?_); clear HX; rintro e w2 ⟨rfl, hb⟩; have P2 := Lib.hid (P1.out.below hb); have D2 := Lib.hid (D1.out.then_ hb); clear hb)
      | (go_at_call 48; have HX := fail_p P2.out; (with_reducible refine HX.mono ?_); clear HX; rintro e w3 ⟨rfl, hp, hd⟩; have P3 := Lib.hid hp; have D3 := Lib.hid (D2.out.trans hd); clear hp hd))
    go_ret
    exact ⟨by rw [HE.out]; rfl, by rw [HE.out]; exact P3.out, D3.out⟩
  · rw [hi] at HI
    have HE : Hid (nameF len s = (takeF s, t.text)) := Lib.hid (by unfold nameF; rw [← ht, hi]; rfl)
    have HT : Hid (∀ w, Par B b len M k d s w → Calls Tryz.prog 101 #[.pointer (some ⟨b, 0, none⟩)] w (RetP B b len M k d (.agg #[.int .i64 (t.kind : Int), .string (bA t.text), .int .i64 (t.n : Int), .int .i64 (t.at_ : Int)]) (takeF s) w)) := Lib.hid fun w h => by
      have := take_any h
      rw [← ht] at this
      exact this
    clear ht hi h
    go_enter Tryz.func90, Tryz.ntmps90
    go_wp2_with (first
      | (go_at_call 86; have HX := HN.out; (with_reducible refine HX.mono ?_); clear HX; rintro e w1 ⟨rfl, hb⟩; have P1 := Lib.hid (HP.out.below hb); have D1 := Lib.hid (Pd.of_below hb b); clear hb)
      | (go_at_call 112; have HX := HI.out w1; (with_reducible refine HX.mono ?_); clear HX; rintro e w2 ⟨rfl, hb⟩; have P2 := Lib.hid (P1.out.below hb); have D2 := Lib.hid (D1.out.then_ hb); clear hb)
      | (go_at_call 101; have HX := HT.out _ P2.out; (with_reducible refine HX.mono ?_); clear HX; rintro e w3 ⟨rfl, hp, hd⟩; have P3 := Lib.hid hp; have D3 := Lib.hid (D2.out.trans hd); clear hp hd))
    go_ret
    exact ⟨by rw [HE.out]; rfl, by rw [HE.out]; exact P3.out, D3.out⟩
theorem fail_nil (e : Nat) (h : s.good) (he : e ≠ 0) : (failF len e s).ts = [] ∧ (failF len e s).no ≠ 0 := by
  unfold failF; split
  · exact ⟨rfl, he⟩
  · rename_i h0; exact ⟨h h0, h0⟩
set_option maxHeartbeats 6400000 in
set_option maxRecDepth 100000 in
theorem enter_any (h : Par B b len M k d s w) (hd : d ≤ 4096) : Calls Tryz.prog 140 #[.pointer (some ⟨b, 0, none⟩)] w (RetP B b len M k (d + 1) (.tuple #[]) (enterF len d s) w) := by
  obtain ⟨A, cap, hB, hcap, hlen, hR⟩ := h.mem
  have c5 := hB.cell 5
  have f5 := hB.frozen 5
  have fl := hB.lt
  simp at c5
  have HP := Lib.hid h
  clear hR hcap hlen
  have hw5 : IntKind.i64.wrap ((d : Int) + 1) = (d : Int) + 1 := IntWalk.i64_in _ (by omega)
  by_cases h32 : 32 ≤ d
  · have HE : Hid (enterF len d s = takeF (failF len 131 s)) := Lib.hid (by unfold enterF; rw [if_pos h32])
    have g0 : decide ((32 : Int) ≤ (d : Int)) = true := decide_eq_true (by omega)
    have HB := Lib.hid hB
    clear hB h32
    go_enter Tryz.func140, Tryz.ntmps140
    go_upto_region 2 with (go_at_call 48; have HX := fail_d HP.out; (with_reducible refine HX.mono ?_); clear HX; rintro e w1 ⟨rfl, hp, hd1⟩; have P1 := Lib.hid hp; have D1 := Lib.hid hd1; clear hp hd1)
    obtain ⟨A1, cap1, hB1, -⟩ := P1.out.mem
    have d5 := hB1.cell 5
    have e5 := hB1.frozen 5
    have el := hB1.lt
    simp at d5
    have P2 : Hid (Par B b len M k (d + 1) (failF len 131 s) (w1.setCell ⟨b, 5, none⟩ (.int .i64 ((d : Int) + 1)))) := Lib.hid (by have q := P1.out.within (d' := d + 1); exact q)
    have D2 : Hid (Pd b w (w1.setCell ⟨b, 5, none⟩ (.int .i64 ((d : Int) + 1)))) := Lib.hid (D1.out.setCell (p := ⟨b, 5, none⟩) rfl _)
    clear hB1 c5 f5 fl
    go_wp2_with (go_at_call 101; have HX := take_any P2.out; (with_reducible refine HX.mono ?_); clear HX; rintro e w3 ⟨rfl, hp, hd1⟩; have P3 := Lib.hid hp; have D3 := Lib.hid (D2.out.trans hd1); clear hp hd1)
    go_end0
    exact ⟨rfl, by rw [HE.out]; exact P3.out, D3.out⟩
  · have HE : Hid (enterF len d s = takeF s) := Lib.hid (by unfold enterF; rw [if_neg h32])
    have g0 : decide ((32 : Int) ≤ (d : Int)) = false := decide_eq_false (by omega)
    have P2 : Hid (Par B b len M k (d + 1) s (w.setCell ⟨b, 5, none⟩ (.int .i64 ((d : Int) + 1)))) := Lib.hid (by have q := HP.out.within (d' := d + 1); exact q)
    have D2 : Hid (Pd b w (w.setCell ⟨b, 5, none⟩ (.int .i64 ((d : Int) + 1)))) := Lib.hid ((Pd.refl b w).setCell (p := ⟨b, 5, none⟩) rfl _)
    clear hB h32
    go_enter Tryz.func140, Tryz.ntmps140
    go_wp2_with (go_at_call 101; have HX := take_any P2.out; (with_reducible refine HX.mono ?_); clear HX; rintro e w3 ⟨rfl, hp, hd1⟩; have P3 := Lib.hid hp; have D3 := Lib.hid (D2.out.trans hd1); clear hp hd1)
    go_end0
    exact ⟨rfl, by rw [HE.out]; exact P3.out, D3.out⟩
end
end Go.Proofs.YteaongdlbleehaaGreatDoor
