/- The parse layer: a program. -/
import Derived.Test.YteaongdlbleehaaDoorPsDecl
namespace Go.Proofs.YteaongdlbleehaaDoor
open Go.RowKit
section
variable {B b len k n : Nat} {M : Value} {s : PS} {w : World}
theorem more_len (f : Nat) : ∀ (s : PS) (l : List ByteArray), (moreN len f s l).1.ts.length ≤ s.ts.length := by
  induction f with
  | zero => intro s l; exact Nat.le_refl _
  | succ f ih =>
    intro s l
    simp only [moreN]
    split
    · exact Nat.le_trans (ih _ _) (Nat.le_trans (name_len _) (takeF_le _))
    · exact Nat.le_refl _
theorem enumP_len (s : PS) : (enumP len s).1.ts.length ≤ s.ts.length := by
  unfold enumP
  exact Nat.le_trans (exp_len _ _) (Nat.le_trans (more_len _ _ _) (Nat.le_trans (name_len _) (Nat.le_trans (exp_len _ _) (name_len _))))
theorem typeP_len (s : PS) : (typeP len s).1.ts.length ≤ s.ts.length := by
  unfold typeP; split
  · exact takeF_le _
  · exact name_len _
theorem sizeP_len (s : PS) : (sizeP len s).1.ts.length ≤ s.ts.length := by
  unfold sizeP; split
  · exact takeF_le _
  · exact fail_len _ _
theorem varP_len (s : PS) : (varP len s).1.ts.length ≤ s.ts.length := by
  unfold varP
  simp only
  split
  · exact Nat.le_trans (exp_len _ _) (Nat.le_trans (exp_len _ _) (Nat.le_trans (sizeP_len _) (Nat.le_trans (takeF_le _) (Nat.le_trans (typeP_len _) (Nat.le_trans (exp_len _ _) (name_len _))))))
  · exact Nat.le_trans (exp_len _ _) (Nat.le_trans (typeP_len _) (Nat.le_trans (exp_len _ _) (name_len _)))
theorem procP_len (s : PS) : (procP len s).1.ts.length ≤ s.ts.length := by
  unfold procP blkE
  exact Nat.le_trans (blk_len 18 0 _) (name_len _)
theorem is_pos {t : Bs} (ht : t ≠ []) {s : PS} (h : isF len t s = true) : 1 ≤ s.ts.length := by
  unfold isF at h
  exact nxt_text_pos (len := len) (by intro e; rw [e] at h; exact ht (by simpa using h))
/-- What is declared takes a token, or is nothing. -/
theorem decl_dec (s : PS) (q : Pg) (h : s.no = 0) : msr (declP len s q).1 + 1 ≤ msr s := by
  have hT : ∀ r : PS, 1 ≤ s.ts.length → r.ts.length ≤ (takeF s).ts.length → msr r + 1 ≤ msr s := fun r h1 hr => by
    rw [take_len] at hr
    unfold msr
    rw [if_pos h]
    split <;> omega
  unfold declP
  split
  · rename_i hi; exact hT _ (is_pos (by decide) hi) (enumP_len _)
  · split
    · rename_i hi; exact hT _ (is_pos (by decide) hi) (varP_len _)
    · split
      · rename_i hi; exact hT _ (is_pos (by decide) hi) (procP_len _)
      · have e : (failF len 130 s) = ⟨[], (nxt len s).at_, 130⟩ := by unfold failF; rw [if_pos h]
        rw [e]
        unfold msr
        rw [if_pos h]
        simp
theorem decl_rows (s : PS) (q : Pg) : (declP len s q).2.enums.length ≤ q.enums.length + 1 ∧ (declP len s q).2.vars.length ≤ q.vars.length + 1 ∧ (declP len s q).2.procs.length ≤ q.procs.length + 1 := by
  unfold declP
  split
  · simp
  · split
    · simp
    · split
      · simp
      · simp
theorem decls_stop (g : Nat) {s : PS} (q : Pg) (h : ¬ (s.no = 0 ∧ isF len tMain s = false)) : declsP len g s q = (s, q) := by
  cases g with
  | zero => rfl
  | succ g => simp only [declsP]; rw [if_neg h]
theorem decls_more (g : Nat) {s : PS} (q : Pg) (h : s.no = 0 ∧ isF len tMain s = false) : declsP len (g + 1) s q = declsP len g (declP len s q).1 (declP len s q).2 := by
  simp only [declsP]; rw [if_pos h]
theorem own_ee {X : Nat → Prop} {T : TypeId} {base : Nat} {w : World} {v : Value} {l : List (ByteArray × List ByteArray)} (h : OwnL (kX kEe X) T 2 base w v l) (hl : l.length * 40 ≤ 140737488355328) : EnR (fun q => base ≤ q ∧ q < w.heap.size) w l v := by
  obtain ⟨A, cap, h1, h2, h3⟩ := h.row
  refine ⟨A, cap, h1, h2, hl, fun i x hx => ?_⟩
  obtain ⟨b, cs, e1, e2, e3, e4, L, rfl, e5⟩ := h3 i x hx
  exact ⟨b, 0, L, e1, e2, by rw [Nat.zero_add]; exact ⟨e4 0 (by omega), e4 1 (by omega)⟩, e5.wide (fun b q => q.1)⟩
theorem own_vv {X : Nat → Prop} {T : TypeId} {base : Nat} {w : World} {v : Value} {l : List (ByteArray × ByteArray × Int)} (h : OwnL (kX kVa X) T 3 base w v l) (hl : l.length * 40 ≤ 140737488355328) : VaR (fun q => base ≤ q ∧ q < w.heap.size) w l v := by
  obtain ⟨A, cap, h1, h2, h3⟩ := h.row
  refine ⟨A, cap, h1, h2, hl, fun i x hx => ?_⟩
  obtain ⟨b, cs, e1, e2, e3, e4, rfl, e5⟩ := h3 i x hx
  exact ⟨b, 0, e1, e2, by rw [Nat.zero_add]; exact ⟨e4 0 (by omega), e4 1 (by omega), e4 2 (by omega)⟩, e5⟩
theorem own_pp {X : Nat → Prop} {T : TypeId} {base : Nat} {w : World} {v : Value} {l : List (ByteArray × List St)} (h : OwnL (kX (kPr n) X) T 2 base w v l) (hl : l.length * 40 ≤ 140737488355328) : PrR (fun q => base ≤ q ∧ q < w.heap.size) n w l v := by
  obtain ⟨A, cap, h1, h2, h3⟩ := h.row
  refine ⟨A, cap, h1, h2, hl, fun i x hx => ?_⟩
  obtain ⟨b, cs, e1, e2, e3, e4, L, rfl, e5⟩ := h3 i x hx
  exact ⟨b, 0, L, e1, e2, by rw [Nat.zero_add]; exact ⟨e4 0 (by omega), e4 1 (by omega)⟩, e5.wide (fun b q => q.1)⟩
/-- What program tells. -/
def RetPr (B b len : Nat) (M : Value) (r : PS × Pg) (w : World) (e : Ending) (w' : World) : Prop :=
  ∃ n vE vV vP vM, e = .returned (pgV vE vV vP vM) ∧ Par B b len M 0 0 r.1 w' ∧ Pd b w w' ∧ PgR (fun q => w.heap.size ≤ q ∧ q < w'.heap.size) n w' r.2 vE vV vP vM
/-- What stands at each round of program. -/
def PgI (B b len : Nat) (M : Value) (w : World) (g3 : Nat) (R : PS × Pg) (gk : Nat) (wr : World) : Prop :=
  ∃ s q n vE vV vP g, msr s ≤ gk ∧ msr s + 1 ≤ g ∧ (q.enums.length + msr s ≤ 4097 ∧ q.vars.length + msr s ≤ 4097 ∧ q.procs.length + msr s ≤ 4097) ∧ PB B b len M w g3 n q vE vV vP s wr ∧ Blk wr g3 39 #[vE, vV, vP, .slice none 0 0] ∧ declsP len g s q = R
set_option maxHeartbeats 6400000 in
set_option maxRecDepth 100000 in
theorem program_any (h : Par B b len M 0 0 s w) : Calls Tryd.prog 18 #[.pointer (some ⟨b, 0, none⟩)] w (RetPr B b len M (progP len s) w) := by
  obtain ⟨R, hRd⟩ : ∃ q, q = declsP len (s.ts.length + 2) s pg0 := ⟨_, rfl⟩
  have HRd := Lib.hid hRd
  have HRes : Hid (progP len s = ((blkE len (expF len tMain R.1)).1, ⟨R.2.enums, R.2.vars, R.2.procs, (blkE len (expF len tMain R.1)).2⟩)) := Lib.hid (by rw [hRd]; rfl)
  obtain ⟨W0, hW0⟩ : ∃ W0, W0 = w.alloc (.cells #[.slice none 0 0, .slice none 0 0, .slice none 0 0, .slice none 0 0] 39) := ⟨_, rfl⟩
  have S0 : Hid (BX B b len M 0 w 39 #[.slice none 0 0, .slice none 0 0, .slice none 0 0, .slice none 0 0] s W0) := Lib.hid (by rw [hW0]; exact BX.new h _ _)
  obtain ⟨W1, hW1⟩ : ∃ q, q = W0.alloc (.cells #[.slice none 0 0, .slice none 0 0, .slice none 0 0, .slice none 0 0] 39) := ⟨_, rfl⟩
  have E1 : Hid (Below W0.heap.size W0 W1) := Lib.hid (by rw [hW1]; exact (Below.refl _ _).alloc (Nat.le_refl _) _)
  have HW1 : Hid (W1 = (w.alloc (.cells #[.slice none 0 0, .slice none 0 0, .slice none 0 0, .slice none 0 0] 39)).alloc (.cells #[.slice none 0 0, .slice none 0 0, .slice none 0 0, .slice none 0 0] 39)) := Lib.hid (by rw [hW1, hW0])
  obtain ⟨g3, hg3⟩ : ∃ q, q = w.heap.size + 1 := ⟨_, rfl⟩
  have hs : W0.heap.size = g3 := by rw [hW0, World.size_alloc, hg3]
  have T1 : Hid (Blk W1 g3 39 #[.slice none 0 0, .slice none 0 0, .slice none 0 0, .slice none 0 0]) := Lib.hid (by rw [hW1, ← hs]; exact Blk.new W0 _ _)
  have HG3 := Lib.hid hg3.symm
  have HST : Hid (PgI B b len M w g3 R (msr s) W1) := Lib.hid ⟨s, pg0, 0, .slice none 0 0, .slice none 0 0, .slice none 0 0, s.ts.length + 2, Nat.le_refl _, by unfold msr; split <;> omega, by obtain ⟨_, _, _, _, q, _⟩ := h.mem; simp only [pg0, List.length_nil]; unfold msr; split <;> omega, ⟨S0.out.below E1.out, ⟨by omega, by have := h.lt; omega⟩, OwnL.nil _ _, OwnL.nil _ _, OwnL.nil _ _, (fun g e => by cases e), (fun g e => by cases e)⟩, T1.out, hRd.symm⟩
  clear hRd hW0 hW1 h hs hg3 S0 E1 T1
  go_enter Tryd.func18, Tryd.ntmps18
  go_upto_region 1 with fail
  go_wp2_with fail
  rw [← HW1.out]
  try rw [HG3.out]
  go_loopg [9] (msr s) (fun gk _ wr => PgI B b len M w g3 R gk wr)
  case atStart => exact HST.out
  case round =>
    obtain ⟨s1, q, n, vE, vV, vP, g, hgk, hg1, hln, hs, ht, hrw⟩ := hrel
    have HGk := Lib.hid hgk
    have HG1 := Lib.hid hg1
    have HLn := Lib.hid hln
    have S5 := Lib.hid hs
    have T5 := Lib.hid ht
    have HRw := Lib.hid hrw
    clear hgk hg1 hln hs ht hrw HST
    obtain ⟨A5, cap5, hB5, -⟩ := S5.out.bx.par.mem
    have c3 := hB5.cell 3
    simp at c3
    clear hB5
    have HIs : Hid (∀ w, Par B b len M 0 0 s1 w → Calls Tryd.prog 38 #[.pointer (some ⟨b, 0, none⟩), .string ⟨#[109, 97, 105, 110]⟩] w (fun e w' => e = .returned (.bool (isF len tMain s1)) ∧ Below w.heap.size w w')) := Lib.hid fun w h => is_any tMain h
    by_cases hno : s1.no = 0
    · have g0 : ((s1.no : Int) == 0) = true := by rw [hno]; rfl
      have HNo1 := Lib.hid hno
      obtain ⟨bj, hbj⟩ : ∃ q, q = isF len tMain s1 := ⟨_, rfl⟩
      rw [← hbj] at HIs
      have HBj := Lib.hid hbj.symm
      clear hbj hno
      cases bj
      · obtain ⟨g, rfl⟩ : ∃ q, g = q + 1 := ⟨g - 1, by have := HG1.out; omega⟩
        obtain ⟨r, hr⟩ : ∃ r, r = declP len s1 q := ⟨_, rfl⟩
        have HMs : Hid (msr r.1 + 1 ≤ msr s1) := Lib.hid (by rw [hr]; exact decl_dec _ _ HNo1.out)
        have HRo : Hid (r.2.enums.length ≤ q.enums.length + 1 ∧ r.2.vars.length ≤ q.vars.length + 1 ∧ r.2.procs.length ≤ q.procs.length + 1) := Lib.hid (by rw [hr]; exact decl_rows _ _)
        have HRw2 : Hid (declsP len g r.1 r.2 = R) := Lib.hid (by rw [← HRw.out, hr]; exact (decls_more g q ⟨HNo1.out, HBj.out⟩).symm)
        have HDc : Hid (∀ W, PB B b len M w g3 n q vE vV vP s1 W → Blk W g3 39 #[vE, vV, vP, .slice none 0 0] → Calls Tryd.prog 39 #[.pointer (some ⟨b, 0, none⟩), .pointer (some ⟨g3, 0, none⟩)] W (RetD B b len M w g3 r)) := Lib.hid fun W h hT => by
          rw [hr]
          exact declare_any h hT (by have := HLn.out; exact ⟨by omega, by omega, by omega⟩)
        clear hr
        go_upto_region 3 with (go_at_call 38; have HY := HIs.out _ S5.out.bx.par; (with_reducible refine HY.mono ?_); clear HY; rintro e w6 ⟨rfl, hq⟩; have S6 := Lib.hid (S5.out.below hq); have T6 := Lib.hid (T5.out.below hq T5.out.lt); clear hq)
        clear c3
        go_wp2_with (go_at_call 39; have HY := HDc.out _ S6.out T6.out; (with_reducible refine HY.mono ?_); clear HY; rintro e w7 ⟨rfl, n7, vE7, vV7, vP7, h7, t7⟩; have S7 := Lib.hid h7; have T7 := Lib.hid t7; clear h7 t7)
        go_roundg (msr r.1)
        case rel => exact ⟨r.1, r.2, n7, vE7, vV7, vP7, g, Nat.le_refl _, by have := HMs.out; have := HG1.out; omega, by have := HMs.out; have := HLn.out; have := HRo.out; exact ⟨by omega, by omega, by omega⟩, S7.out, T7.out, HRw2.out⟩
        case measure => have := HMs.out; have := HGk.out; omega
      · skip
        have HRr : Hid ((s1, q) = R) := Lib.hid (by rw [← HRw.out]; exact (decls_stop _ _ (fun h => by have := h.2; rw [HBj.out] at this; cases this)).symm)
        obtain ⟨p1, hp1⟩ : ∃ q, q = expF len tMain s1 := ⟨_, rfl⟩
        have HX7 : Hid (∀ w, Par B b len M 0 0 s1 w → Calls Tryd.prog 40 #[.pointer (some ⟨b, 0, none⟩), .string ⟨#[109, 97, 105, 110]⟩] w (RetP B b len M 0 0 (.tuple #[]) p1 w)) := Lib.hid fun w h => by rw [hp1]; exact expect_any tMain h
        obtain ⟨r, hr⟩ : ∃ q, q = blkE len p1 := ⟨_, rfl⟩
        have HBk : Hid (∀ w, Par B b len M 0 0 p1 w → Calls Tryd.prog 41 #[.pointer (some ⟨b, 0, none⟩)] w (RetB B b len M 0 r w)) := Lib.hid fun w h => by
          rw [hr]
          exact block_any 18 0 rfl _ _ h ⟨by omega, fun _ => by omega⟩
        have HRes2 : Hid (progP len s = (r.1, ⟨q.enums, q.vars, q.procs, r.2⟩)) := Lib.hid (by rw [HRes.out, ← HRr.out, hr, hp1])
        clear hp1 hr
        go_upto_region 4 with (go_at_call 38; have HY := HIs.out _ S5.out.bx.par; (with_reducible refine HY.mono ?_); clear HY; rintro e w6 ⟨rfl, hq⟩; have S6 := Lib.hid (S5.out.below hq); have T6 := Lib.hid (T5.out.below hq T5.out.lt); clear hq)
        go_upto_region 5 with (go_at_call 40; have HY := HX7.out _ S6.out.bx.par; (with_reducible refine HY.mono ?_); clear HY; rintro e w7 ⟨rfl, hp, hd⟩; have S7 := Lib.hid (S6.out.step hp hd); have T7 := Lib.hid (hd.blk T6.out (Nat.ne_of_gt S6.out.lo.2)); clear hp hd)
        obtain ⟨A1, c1, rfl⟩ : ∃ A c, vE = .slice A q.enums.length c := by
          obtain ⟨A, c, e, -⟩ := S7.out.en.row
          exact ⟨_, _, e⟩
        obtain ⟨A2, c2, rfl⟩ : ∃ A c, vV = .slice A q.vars.length c := by
          obtain ⟨A, c, e, -⟩ := S7.out.va.row
          exact ⟨_, _, e⟩
        obtain ⟨A3, c3, rfl⟩ : ∃ A c, vP = .slice A q.procs.length c := by
          obtain ⟨A, c, e, -⟩ := S7.out.pr.row
          exact ⟨_, _, e⟩
        go_upto_region 6 with (go_at_call 41; have HY := HBk.out _ S7.out.bx.par; (with_reducible refine HY.mono ?_); clear HY; rintro e w8 ⟨nf, AL, mL, cL, rfl, hp, hd, hr8⟩; have S8 := Lib.hid (S7.out.step hp hd); have T8 := Lib.hid (hd.blk T7.out (Nat.ne_of_gt S7.out.lo.2)); have R8 := Lib.hid (hr8.wide (P' := fun q => g3 + 1 ≤ q ∧ q < w8.heap.size) (fun q hq => ⟨Nat.le_trans T7.out.lt hq.1, hq.2⟩)); have t0 := T8.out.cell 0; have t1 := T8.out.cell 1; have t2 := T8.out.cell 2; have t3 := T8.out.cell 3; have tf0 := T8.out.frozen 0; have tf1 := T8.out.frozen 1; have tf2 := T8.out.frozen 2; have tf3 := T8.out.frozen 3; have tl := T8.out.lt; simp at t0 t1 t2 t3; clear hp hd hr8)
        have PG8 : Hid (PgR (fun q => g3 + 1 ≤ q ∧ q < w8.heap.size) (n + nf) w8 ⟨q.enums, q.vars, q.procs, r.2⟩ (.slice A1 q.enums.length c1) (.slice A2 q.vars.length c2) (.slice A3 q.procs.length c3) (.slice AL mL cL)) := Lib.hid ⟨own_ee S8.out.en (by have := HLn.out; show q.enums.length * 40 ≤ 140737488355328; omega), own_vv S8.out.va (by have := HLn.out; show q.vars.length * 40 ≤ 140737488355328; omega), (own_pp S8.out.pr (by have := HLn.out; show q.procs.length * 40 ≤ 140737488355328; omega)).le (Nat.le_add_right n nf), R8.out.le (Nat.le_add_left nf n)⟩
        obtain ⟨w9, hw9⟩ : ∃ q, q = w8.setCell ⟨g3, 3, none⟩ (.slice AL mL cL) := ⟨_, rfl⟩
        have S9 : Hid (BX B b len M 0 w 39 #[.slice none 0 0, .slice none 0 0, .slice none 0 0, .slice none 0 0] r.1 w9) := Lib.hid (by rw [hw9]; exact S8.out.bx.far (p := ⟨g3, 3, none⟩) S8.out.lo.1 _)
        have T9 : Hid (Blk w9 g3 39 #[.slice A1 q.enums.length c1, .slice A2 q.vars.length c2, .slice A3 q.procs.length c3, .slice AL mL cL]) := Lib.hid (by rw [hw9]; exact T8.out.set_ 3 _)
        have PG9 : Hid (PgR (fun q => g3 + 1 ≤ q ∧ q < w9.heap.size) (n + nf) w9 ⟨q.enums, q.vars, q.procs, r.2⟩ (.slice A1 q.enums.length c1) (.slice A2 q.vars.length c2) (.slice A3 q.procs.length c3) (.slice AL mL cL)) := Lib.hid (by
          rw [hw9]
          exact (PG8.out.kept (fun q hq => Below.heap_setCell _ _ _ _ (by have := hq.1; show q ≠ g3; omega))).wide (fun q hq => ⟨hq.1, by simpa [World.setCell] using hq.2⟩))
        rw [← hw9]
        clear hw9 t0 tf0 t1 tf1 t2 tf2 t3 tf3 tl
        have t0 := T9.out.cell 0
        have t1 := T9.out.cell 1
        have t2 := T9.out.cell 2
        have t3 := T9.out.cell 3
        simp at t0 t1 t2 t3
        have r0 := S9.out.r.cell 0
        have r1 := S9.out.r.cell 1
        have r2 := S9.out.r.cell 2
        have r3 := S9.out.r.cell 3
        have rf0 := S9.out.r.frozen 0
        have rf1 := S9.out.r.frozen 1
        have rf2 := S9.out.r.frozen 2
        have rf3 := S9.out.r.frozen 3
        have rl := S9.out.r.lt
        simp at r0 r1 r2 r3
        go_wp2
        have F := (((S9.out.set_ 0 (.slice A1 q.enums.length c1)).set_ 1 (.slice A2 q.vars.length c2)).set_ 2 (.slice A3 q.procs.length c3)).set_ 3 (.slice AL mL cL)
        have q0 := F.r.cell 0
        have q1 := F.r.cell 1
        have q2 := F.r.cell 2
        have q3 := F.r.cell 3
        simp at q0 q1 q2 q3
        rw [HRes2.out]
        refine bodyPost_ret (v := pgV (.slice A1 q.enums.length c1) (.slice A2 q.vars.length c2) (.slice A3 q.procs.length c3) (.slice AL mL cL)) (by simp [results, Tryd.results18, go_sem, q0, q1, q2, q3]) rfl ⟨n + nf, _, _, _, _, rfl, F.par, F.pd, ?_⟩
        have K4 := four_kept (w := w9) (g := w.heap.size) (.slice A1 q.enums.length c1) (.slice A2 q.vars.length c2) (.slice A3 q.procs.length c3) (.slice AL mL cL) 0 1 2 3
        exact (PG9.out.kept (fun x hx => K4.1 x (by have := hx.1; have := S8.out.lo.1; omega))).wide (fun x hx => ⟨by have := hx.1; have := S8.out.lo.1; omega, by rw [K4.2]; exact hx.2⟩)
    · have g0 : ((s1.no : Int) == 0) = false := by simp; exact hno
      have HNo1 := Lib.hid hno
      clear hno
      have S6 := S5
      have T6 := T5
      have HRr : Hid ((s1, q) = R) := Lib.hid (by rw [← HRw.out]; exact (decls_stop _ _ (fun h => HNo1.out h.1)).symm)
      obtain ⟨p1, hp1⟩ : ∃ q, q = expF len tMain s1 := ⟨_, rfl⟩
      have HX7 : Hid (∀ w, Par B b len M 0 0 s1 w → Calls Tryd.prog 40 #[.pointer (some ⟨b, 0, none⟩), .string ⟨#[109, 97, 105, 110]⟩] w (RetP B b len M 0 0 (.tuple #[]) p1 w)) := Lib.hid fun w h => by rw [hp1]; exact expect_any tMain h
      obtain ⟨r, hr⟩ : ∃ q, q = blkE len p1 := ⟨_, rfl⟩
      have HBk : Hid (∀ w, Par B b len M 0 0 p1 w → Calls Tryd.prog 41 #[.pointer (some ⟨b, 0, none⟩)] w (RetB B b len M 0 r w)) := Lib.hid fun w h => by
        rw [hr]
        exact block_any 18 0 rfl _ _ h ⟨by omega, fun _ => by omega⟩
      have HRes2 : Hid (progP len s = (r.1, ⟨q.enums, q.vars, q.procs, r.2⟩)) := Lib.hid (by rw [HRes.out, ← HRr.out, hr, hp1])
      clear hp1 hr
      go_upto_region 4 with fail
      go_upto_region 5 with (go_at_call 40; have HY := HX7.out _ S6.out.bx.par; (with_reducible refine HY.mono ?_); clear HY; rintro e w7 ⟨rfl, hp, hd⟩; have S7 := Lib.hid (S6.out.step hp hd); have T7 := Lib.hid (hd.blk T6.out (Nat.ne_of_gt S6.out.lo.2)); clear hp hd)
      obtain ⟨A1, c1, rfl⟩ : ∃ A c, vE = .slice A q.enums.length c := by
        obtain ⟨A, c, e, -⟩ := S7.out.en.row
        exact ⟨_, _, e⟩
      obtain ⟨A2, c2, rfl⟩ : ∃ A c, vV = .slice A q.vars.length c := by
        obtain ⟨A, c, e, -⟩ := S7.out.va.row
        exact ⟨_, _, e⟩
      obtain ⟨A3, c3, rfl⟩ : ∃ A c, vP = .slice A q.procs.length c := by
        obtain ⟨A, c, e, -⟩ := S7.out.pr.row
        exact ⟨_, _, e⟩
      go_upto_region 6 with (go_at_call 41; have HY := HBk.out _ S7.out.bx.par; (with_reducible refine HY.mono ?_); clear HY; rintro e w8 ⟨nf, AL, mL, cL, rfl, hp, hd, hr8⟩; have S8 := Lib.hid (S7.out.step hp hd); have T8 := Lib.hid (hd.blk T7.out (Nat.ne_of_gt S7.out.lo.2)); have R8 := Lib.hid (hr8.wide (P' := fun q => g3 + 1 ≤ q ∧ q < w8.heap.size) (fun q hq => ⟨Nat.le_trans T7.out.lt hq.1, hq.2⟩)); have t0 := T8.out.cell 0; have t1 := T8.out.cell 1; have t2 := T8.out.cell 2; have t3 := T8.out.cell 3; have tf0 := T8.out.frozen 0; have tf1 := T8.out.frozen 1; have tf2 := T8.out.frozen 2; have tf3 := T8.out.frozen 3; have tl := T8.out.lt; simp at t0 t1 t2 t3; clear hp hd hr8)
      have PG8 : Hid (PgR (fun q => g3 + 1 ≤ q ∧ q < w8.heap.size) (n + nf) w8 ⟨q.enums, q.vars, q.procs, r.2⟩ (.slice A1 q.enums.length c1) (.slice A2 q.vars.length c2) (.slice A3 q.procs.length c3) (.slice AL mL cL)) := Lib.hid ⟨own_ee S8.out.en (by have := HLn.out; show q.enums.length * 40 ≤ 140737488355328; omega), own_vv S8.out.va (by have := HLn.out; show q.vars.length * 40 ≤ 140737488355328; omega), (own_pp S8.out.pr (by have := HLn.out; show q.procs.length * 40 ≤ 140737488355328; omega)).le (Nat.le_add_right n nf), R8.out.le (Nat.le_add_left nf n)⟩
      obtain ⟨w9, hw9⟩ : ∃ q, q = w8.setCell ⟨g3, 3, none⟩ (.slice AL mL cL) := ⟨_, rfl⟩
      have S9 : Hid (BX B b len M 0 w 39 #[.slice none 0 0, .slice none 0 0, .slice none 0 0, .slice none 0 0] r.1 w9) := Lib.hid (by rw [hw9]; exact S8.out.bx.far (p := ⟨g3, 3, none⟩) S8.out.lo.1 _)
      have T9 : Hid (Blk w9 g3 39 #[.slice A1 q.enums.length c1, .slice A2 q.vars.length c2, .slice A3 q.procs.length c3, .slice AL mL cL]) := Lib.hid (by rw [hw9]; exact T8.out.set_ 3 _)
      have PG9 : Hid (PgR (fun q => g3 + 1 ≤ q ∧ q < w9.heap.size) (n + nf) w9 ⟨q.enums, q.vars, q.procs, r.2⟩ (.slice A1 q.enums.length c1) (.slice A2 q.vars.length c2) (.slice A3 q.procs.length c3) (.slice AL mL cL)) := Lib.hid (by
        rw [hw9]
        exact (PG8.out.kept (fun q hq => Below.heap_setCell _ _ _ _ (by have := hq.1; show q ≠ g3; omega))).wide (fun q hq => ⟨hq.1, by simpa [World.setCell] using hq.2⟩))
      rw [← hw9]
      clear hw9 t0 tf0 t1 tf1 t2 tf2 t3 tf3 tl
      have t0 := T9.out.cell 0
      have t1 := T9.out.cell 1
      have t2 := T9.out.cell 2
      have t3 := T9.out.cell 3
      simp at t0 t1 t2 t3
      have r0 := S9.out.r.cell 0
      have r1 := S9.out.r.cell 1
      have r2 := S9.out.r.cell 2
      have r3 := S9.out.r.cell 3
      have rf0 := S9.out.r.frozen 0
      have rf1 := S9.out.r.frozen 1
      have rf2 := S9.out.r.frozen 2
      have rf3 := S9.out.r.frozen 3
      have rl := S9.out.r.lt
      simp at r0 r1 r2 r3
      go_wp2
      have F := (((S9.out.set_ 0 (.slice A1 q.enums.length c1)).set_ 1 (.slice A2 q.vars.length c2)).set_ 2 (.slice A3 q.procs.length c3)).set_ 3 (.slice AL mL cL)
      have q0 := F.r.cell 0
      have q1 := F.r.cell 1
      have q2 := F.r.cell 2
      have q3 := F.r.cell 3
      simp at q0 q1 q2 q3
      rw [HRes2.out]
      refine bodyPost_ret (v := pgV (.slice A1 q.enums.length c1) (.slice A2 q.vars.length c2) (.slice A3 q.procs.length c3) (.slice AL mL cL)) (by simp [results, Tryd.results18, go_sem, q0, q1, q2, q3]) rfl ⟨n + nf, _, _, _, _, rfl, F.par, F.pd, ?_⟩
      have K4 := four_kept (w := w9) (g := w.heap.size) (.slice A1 q.enums.length c1) (.slice A2 q.vars.length c2) (.slice A3 q.procs.length c3) (.slice AL mL cL) 0 1 2 3
      exact (PG9.out.kept (fun x hx => K4.1 x (by have := hx.1; have := S8.out.lo.1; omega))).wide (fun x hx => ⟨by have := hx.1; have := S8.out.lo.1; omega, by rw [K4.2]; exact hx.2⟩)
end
end Go.Proofs.YteaongdlbleehaaDoor
