/- Put together of: PsRows, PsDecl, PsPg. -/
import Derived.Test.YteaongdlbleehaaGreatDoorPsEnum
/- The parse layer: three rows that grow, while a program is read. -/
namespace Go.Proofs.YteaongdlbleehaaGreatDoor
open Go.RowKit
section
variable {B b len k n : Nat} {M : Value} {s : PS} {w : World}
/-- A kind whose elements keep out of some blocks. -/
def kX {α : Type} (κ : Kind α) (X : Nat → Prop) : Kind α where
  good P w x cs := κ.good (fun b => P b ∧ ¬ X b) w x cs
  mono h := fun hg => κ.mono (fun b q => ⟨h b q.1, q.2⟩) hg
  kept h := fun hg => κ.kept (fun b q => h b q.1) hg
/-- Enums whose rows are their own. -/
def kEe : Kind (ByteArray × List ByteArray) where
  good P w x cs := ∃ L, cs = [.string x.1, L] ∧ StrR P w x.2 L
  mono h := fun ⟨L, h1, h2⟩ => ⟨L, h1, h2.wide h⟩
  kept h := fun ⟨L, h1, h2⟩ => ⟨L, h1, h2.kept h⟩
/-- The blocks of two rows. -/
def XX (a c : Value) (g : Nat) : Prop := a.ownBlock = some g ∨ c.ownBlock = some g
theorem OwnL.apart {α : Type} {κ : Kind α} {X X' : Nat → Prop} {T : TypeId} {j base : Nat} {w w' : World} {v : Value} {l : List α} {o : Option Nat} (h : OwnL (kX κ X) T j base w v l) (hg : w.grownBy w' o) (hne : ∀ g, v.ownBlock = some g → o ≠ some g)
    (hX : ∀ g, o = some g → X g) (hX' : ∀ g, g < w.heap.size → X' g → X g) : OwnL (kX κ X') T j base w' v l := by
  obtain ⟨css, h1, h2, h3⟩ := h
  refine ⟨css, h1, ⟨h2.1, ?_⟩, fun i x cs hx hc => ⟨(h3 i x cs hx hc).1, ?_⟩⟩
  · rcases h2.2 with q | ⟨g, cap, cur, e1, e2, e3, r⟩
    · exact .inl q
    · exact .inr ⟨g, cap, cur, e1, e2, (hg.block g (Array.getElem?_eq_some_iff.1 e3).1 (fun e => hne g (by rw [e1]; rfl) e.symm)).trans e3, r⟩
  · have q := (h3 i x cs hx hc).2
    exact κ.mono (fun b q => ⟨⟨q.1.1, Nat.lt_of_lt_of_le q.1.2.1 hg.size, q.1.2.2⟩, fun e => q.2 (hX' b q.1.2.1 e)⟩) (κ.kept (fun b q => hg.block b q.1.2.1 (fun e => q.2 (hX b e.symm))) q)
theorem OwnL.upP {n m j base : Nat} {X : Nat → Prop} {T : TypeId} {w : World} {v : Value} {l : List (ByteArray × List St)} (h : OwnL (kX (kPr n) X) T j base w v l) (hn : n ≤ m) : OwnL (kX (kPr m) X) T j base w v l := by
  obtain ⟨css, h1, h2, h3⟩ := h
  refine ⟨css, h1, h2, fun i x cs hx hc => ⟨(h3 i x cs hx hc).1, ?_⟩⟩
  obtain ⟨L, e1, e2⟩ := (h3 i x cs hx hc).2
  exact ⟨L, e1, e2.le hn⟩
/-- While a program is read: its result's box, and the three rows. -/
structure PB (B b len : Nat) (M : Value) (w : World) (g3 n : Nat) (q : Pg) (vE vV vP : Value) (s : PS) (W : World) : Prop where
  bx : BX B b len M 0 w 28 #[.slice none 0 0, .slice none 0 0, .slice none 0 0, .slice none 0 0] s W
  lo : w.heap.size < g3 ∧ b < g3
  en : OwnL (kX kEe (XX vV vP)) 67 2 (g3 + 1) W vE q.enums
  va : OwnL (kX kVa (XX vE vP)) 70 3 (g3 + 1) W vV q.vars
  pr : OwnL (kX (kPr n) (XX vE vV)) 73 2 (g3 + 1) W vP q.procs
  f1 : ∀ g, vE.ownBlock = some g → vV.ownBlock ≠ some g ∧ vP.ownBlock ≠ some g
  f2 : ∀ g, vV.ownBlock = some g → vP.ownBlock ≠ some g
section
variable {g3 m : Nat} {q : Pg} {vE vV vP v' : Value} {s' : PS} {W W' : World}
theorem PB.step (h : PB B b len M w g3 n q vE vV vP s W) (hp : Par B b len M 0 0 s' W') (hd : Pd b W W') : PB B b len M w g3 n q vE vV vP s' W' :=
  ⟨h.bx.step hp hd, h.lo, h.en.pd hd (Nat.lt_succ_of_lt h.lo.2), h.va.pd hd (Nat.lt_succ_of_lt h.lo.2), h.pr.pd hd (Nat.lt_succ_of_lt h.lo.2), h.f1, h.f2⟩
theorem PB.below (h : PB B b len M w g3 n q vE vV vP s W) (hb : Below W.heap.size W W') : PB B b len M w g3 n q vE vV vP s W' := h.step (h.bx.par.below hb) (Pd.of_below hb b)
theorem PB.up (h : PB B b len M w g3 n q vE vV vP s W) (hn : n ≤ m) : PB B b len M w g3 m q vE vV vP s W := ⟨h.bx, h.lo, h.en, h.va, h.pr.upP hn, h.f1, h.f2⟩
theorem PB.set_ (h : PB B b len M w g3 n q vE vV vP s W) (i : Nat) (u : Value) : PB B b len M w g3 n q vE vV vP s (W.setCell ⟨g3, i, none⟩ u) :=
  ⟨h.bx.far (p := ⟨g3, i, none⟩) h.lo.1 _, h.lo, h.en.set_ ⟨g3, i, none⟩ _ (Nat.lt_succ_self _), h.va.set_ ⟨g3, i, none⟩ _ (Nat.lt_succ_self _), h.pr.set_ ⟨g3, i, none⟩ _ (Nat.lt_succ_self _), h.f1, h.f2⟩
theorem PB.moreE {x : ByteArray × List ByteArray} {cs : List Value} {css : List (List Value)} (h : PB B b len M w g3 n q vE vV vP s W) (h1 : css.length = q.enums.length)
    (h3 : ∀ (i : Nat) (x : ByteArray × List ByteArray) (cs : List Value), q.enums[i]? = some x → css[i]? = some cs → cs.length = 2 ∧ (kX kEe (XX vV vP)).good (fun b => g3 + 1 ≤ b ∧ b < W.heap.size ∧ vE.ownBlock ≠ some b) W x cs)
    (ho : W'.ownsRow (g3 + 1) 67 2 v' (q.enums.length + 1) (css.flatten ++ cs)) (hg : W.grownBy W' vE.ownBlock) (hv : v'.ownBlock = vE.ownBlock ∨ v'.ownBlock = some W.heap.size)
    (hc : cs.length = 2) (hx : (kX kEe (XX vV vP)).good (fun b => g3 + 1 ≤ b ∧ b < W.heap.size ∧ vE.ownBlock ≠ some b) W x cs) : PB B b len M w g3 n ⟨q.enums ++ [x], q.vars, q.procs, q.main⟩ v' vV vP s W' := by
  have hV := h.va.apart (X' := XX v' vP) hg (fun g e e2 => (h.f1 g e2).1 e) (fun g e => Or.inl e) (fun g hl e => by
      rcases e with e | e
      · rcases hv with e2 | e2
        · exact Or.inl (by rw [← e2]; exact e)
        · rw [e2] at e; injection e with e; omega
      · exact Or.inr e)
  have hP := h.pr.apart (X' := XX v' vV) hg (fun g e e2 => (h.f1 g e2).2 e) (fun g e => Or.inl e) (fun g hl e => by
      rcases e with e | e
      · rcases hv with e2 | e2
        · exact Or.inl (by rw [← e2]; exact e)
        · rw [e2] at e; injection e with e; omega
      · exact Or.inr e)
  have hf1 : ∀ g, v'.ownBlock = some g → vV.ownBlock ≠ some g ∧ vP.ownBlock ≠ some g := fun g e => by
    rcases hv with e2 | e2
    · exact h.f1 g (by rw [← e2]; exact e)
    · rw [e2] at e
      injection e with e
      subst e
      exact ⟨fun e => Nat.lt_irrefl _ (h.va.lt _ e).2, fun e => Nat.lt_irrefl _ (h.pr.lt _ e).2⟩
  have hf2 : ∀ g, vV.ownBlock = some g → vP.ownBlock ≠ some g := h.f2
  exact ⟨h.bx.grown hg (fun g e => Nat.lt_of_lt_of_le h.lo.1 (Nat.le_of_succ_le (h.en.lt g e).1)), h.lo, OwnL.more h1 h3 ho hg hv hc hx, hV, hP, hf1, hf2⟩
theorem PB.moreV {x : ByteArray × ByteArray × Int} {cs : List Value} {css : List (List Value)} (h : PB B b len M w g3 n q vE vV vP s W) (h1 : css.length = q.vars.length)
    (h3 : ∀ (i : Nat) (x : ByteArray × ByteArray × Int) (cs : List Value), q.vars[i]? = some x → css[i]? = some cs → cs.length = 3 ∧ (kX kVa (XX vE vP)).good (fun b => g3 + 1 ≤ b ∧ b < W.heap.size ∧ vV.ownBlock ≠ some b) W x cs)
    (ho : W'.ownsRow (g3 + 1) 70 3 v' (q.vars.length + 1) (css.flatten ++ cs)) (hg : W.grownBy W' vV.ownBlock) (hv : v'.ownBlock = vV.ownBlock ∨ v'.ownBlock = some W.heap.size)
    (hc : cs.length = 3) (hx : (kX kVa (XX vE vP)).good (fun b => g3 + 1 ≤ b ∧ b < W.heap.size ∧ vV.ownBlock ≠ some b) W x cs) : PB B b len M w g3 n ⟨q.enums, q.vars ++ [x], q.procs, q.main⟩ vE v' vP s W' := by
  have hE := h.en.apart (X' := XX v' vP) hg (fun g e e2 => (h.f1 g e).1 e2) (fun g e => Or.inl e) (fun g hl e => by
      rcases e with e | e
      · rcases hv with e2 | e2
        · exact Or.inl (by rw [← e2]; exact e)
        · rw [e2] at e; injection e with e; omega
      · exact Or.inr e)
  have hP := h.pr.apart (X' := XX vE v') hg (fun g e e2 => h.f2 g e2 e) (fun g e => Or.inr e) (fun g hl e => by
      rcases e with e | e
      · exact Or.inl e
      · rcases hv with e2 | e2
        · exact Or.inr (by rw [← e2]; exact e)
        · rw [e2] at e; injection e with e; omega)
  have hf1 : ∀ g, vE.ownBlock = some g → v'.ownBlock ≠ some g ∧ vP.ownBlock ≠ some g := fun g e => ⟨fun e3 => by
    rcases hv with e2 | e2
    · exact (h.f1 g e).1 (by rw [← e2]; exact e3)
    · rw [e2] at e3
      injection e3 with e3
      subst e3
      exact Nat.lt_irrefl _ (h.en.lt _ e).2, (h.f1 g e).2⟩
  have hf2 : ∀ g, v'.ownBlock = some g → vP.ownBlock ≠ some g := fun g e => by
    rcases hv with e2 | e2
    · exact h.f2 g (by rw [← e2]; exact e)
    · rw [e2] at e
      injection e with e
      subst e
      exact fun e => Nat.lt_irrefl _ (h.pr.lt _ e).2
  exact ⟨h.bx.grown hg (fun g e => Nat.lt_of_lt_of_le h.lo.1 (Nat.le_of_succ_le (h.va.lt g e).1)), h.lo, hE, OwnL.more h1 h3 ho hg hv hc hx, hP, hf1, hf2⟩
theorem PB.moreP {x : ByteArray × List St} {cs : List Value} {css : List (List Value)} (h : PB B b len M w g3 n q vE vV vP s W) (h1 : css.length = q.procs.length)
    (h3 : ∀ (i : Nat) (x : ByteArray × List St) (cs : List Value), q.procs[i]? = some x → css[i]? = some cs → cs.length = 2 ∧ (kX (kPr n) (XX vE vV)).good (fun b => g3 + 1 ≤ b ∧ b < W.heap.size ∧ vP.ownBlock ≠ some b) W x cs)
    (ho : W'.ownsRow (g3 + 1) 73 2 v' (q.procs.length + 1) (css.flatten ++ cs)) (hg : W.grownBy W' vP.ownBlock) (hv : v'.ownBlock = vP.ownBlock ∨ v'.ownBlock = some W.heap.size)
    (hc : cs.length = 2) (hx : (kX (kPr n) (XX vE vV)).good (fun b => g3 + 1 ≤ b ∧ b < W.heap.size ∧ vP.ownBlock ≠ some b) W x cs) : PB B b len M w g3 n ⟨q.enums, q.vars, q.procs ++ [x], q.main⟩ vE vV v' s W' := by
  have hE := h.en.apart (X' := XX vV v') hg (fun g e e2 => (h.f1 g e).2 e2) (fun g e => Or.inr e) (fun g hl e => by
      rcases e with e | e
      · exact Or.inl e
      · rcases hv with e2 | e2
        · exact Or.inr (by rw [← e2]; exact e)
        · rw [e2] at e; injection e with e; omega)
  have hV := h.va.apart (X' := XX vE v') hg (fun g e e2 => h.f2 g e e2) (fun g e => Or.inr e) (fun g hl e => by
      rcases e with e | e
      · exact Or.inl e
      · rcases hv with e2 | e2
        · exact Or.inr (by rw [← e2]; exact e)
        · rw [e2] at e; injection e with e; omega)
  have hf1 : ∀ g, vE.ownBlock = some g → vV.ownBlock ≠ some g ∧ v'.ownBlock ≠ some g := fun g e => ⟨(h.f1 g e).1, fun e3 => by
    rcases hv with e2 | e2
    · exact (h.f1 g e).2 (by rw [← e2]; exact e3)
    · rw [e2] at e3
      injection e3 with e3
      subst e3
      exact Nat.lt_irrefl _ (h.en.lt _ e).2⟩
  have hf2 : ∀ g, vV.ownBlock = some g → v'.ownBlock ≠ some g := fun g e e3 => by
    rcases hv with e2 | e2
    · exact h.f2 g e (by rw [← e2]; exact e3)
    · rw [e2] at e3
      injection e3 with e3
      subst e3
      exact Nat.lt_irrefl _ (h.va.lt _ e).2
  exact ⟨h.bx.grown hg (fun g e => Nat.lt_of_lt_of_le h.lo.1 (Nat.le_of_succ_le (h.pr.lt g e).1)), h.lo, hE, hV, OwnL.more h1 h3 ho hg hv hc hx, hf1, hf2⟩
end
end
end Go.Proofs.YteaongdlbleehaaGreatDoor

/- The parse layer: what is declared. -/
namespace Go.Proofs.YteaongdlbleehaaGreatDoor
open Go.RowKit
section
variable {B b len k n : Nat} {M : Value} {s : PS} {w : World}
/-- Tokens that were there. -/
theorem sub_fail (e : Nat) {s : PS} (h : TokB s.ts) : TokB (failF len e s).ts := by
  unfold failF; split
  · intro t ht; cases ht
  · exact h
theorem sub_take {s : PS} (h : TokB s.ts) : TokB (takeF s).ts := fun t ht => h t (List.mem_of_mem_tail ht)
theorem sub_name {s : PS} (h : TokB s.ts) : TokB (nameF len s).1.ts := by
  unfold nameF; split
  · exact sub_take h
  · exact sub_fail _ h
theorem sub_exp (t : Bs) {s : PS} (h : TokB s.ts) : TokB (expF len t s).ts := by
  unfold expF; split
  · exact sub_take h
  · exact sub_fail _ h
theorem sub_type {s : PS} (h : TokB s.ts) : TokB (typeP len s).1.ts := by
  unfold typeP; split
  · exact sub_take h
  · exact sub_name h
theorem var_in {s : PS} (hl : len ≤ 4096) (h : TokB s.ts) : In64 (varP len s).2.2.2 := by
  unfold varP
  simp only
  split
  · unfold sizeP
    split
    · have := (nxt_b hl (sub_take (sub_type (len := len) (sub_exp (len := len) [58] (sub_name (len := len) h))))).2.1
      unfold In64
      simp only
      omega
    · exact in64_zero
  · exact in64_zero
/-- What declare tells. -/
def RetD (B b len : Nat) (M : Value) (w : World) (g3 : Nat) (r : PS × Pg) (e : Ending) (w' : World) : Prop :=
  e = .returned (.tuple #[]) ∧ ∃ n vE vV vP, PB B b len M w g3 n r.2 vE vV vP r.1 w' ∧ Blk w' g3 28 #[vE, vV, vP, .slice none 0 0]
set_option maxHeartbeats 6400000 in
set_option maxRecDepth 100000 in
theorem declare_any {g3 : Nat} {q : Pg} {vE vV vP : Value} {W : World} (h : PB B b len M w g3 n q vE vV vP s W) (hT : Blk W g3 28 #[vE, vV, vP, .slice none 0 0]) (hl : q.enums.length ≤ 4097 ∧ q.vars.length ≤ 4097 ∧ q.procs.length ≤ 4097) :
    Calls Tryz.prog 50 #[.pointer (some ⟨b, 0, none⟩), .pointer (some ⟨g3, 0, none⟩)] W (RetD B b len M w g3 (declP len s q)) := by
  obtain ⟨A1, c1, rfl⟩ : ∃ A c, vE = .slice A q.enums.length c := by
    obtain ⟨A, c, e, -⟩ := h.en.row
    exact ⟨_, _, e⟩
  obtain ⟨A2, c2, rfl⟩ : ∃ A c, vV = .slice A q.vars.length c := by
    obtain ⟨A, c, e, -⟩ := h.va.row
    exact ⟨_, _, e⟩
  obtain ⟨A3, c3, rfl⟩ : ∃ A c, vP = .slice A q.procs.length c := by
    obtain ⟨A, c, e, -⟩ := h.pr.row
    exact ⟨_, _, e⟩
  have S0 := Lib.hid h
  have T0 := Lib.hid hT
  have HL := Lib.hid hl
  have HTb := Lib.hid (And.intro h.bx.par.hl h.bx.par.tb)
  obtain ⟨bE, hbE⟩ : ∃ q, q = isF len tEnum s := ⟨_, rfl⟩
  have HS1 : Hid (∀ w, Par B b len M 0 0 s w → Calls Tryz.prog 87 #[.pointer (some ⟨b, 0, none⟩), .string ⟨#[101, 110, 117, 109]⟩] w (RetP B b len M 0 0 (.bool bE) (if bE then takeF s else s) w)) := Lib.hid fun w h => by
    have := skip_any tEnum h
    unfold skipF at this
    rw [← hbE] at this
    exact this
  obtain ⟨bV, hbV⟩ : ∃ q, q = isF len tVar s := ⟨_, rfl⟩
  have HS2 : Hid (∀ w, Par B b len M 0 0 s w → Calls Tryz.prog 87 #[.pointer (some ⟨b, 0, none⟩), .string ⟨#[118, 97, 114]⟩] w (RetP B b len M 0 0 (.bool bV) (if bV then takeF s else s) w)) := Lib.hid fun w h => by
    have := skip_any tVar h
    unfold skipF at this
    rw [← hbV] at this
    exact this
  obtain ⟨bP, hbP⟩ : ∃ q, q = isF len tProc s := ⟨_, rfl⟩
  have HS3 : Hid (∀ w, Par B b len M 0 0 s w → Calls Tryz.prog 87 #[.pointer (some ⟨b, 0, none⟩), .string ⟨#[112, 114, 111, 99]⟩] w (RetP B b len M 0 0 (.bool bP) (if bP then takeF s else s) w)) := Lib.hid fun w h => by
    have := skip_any tProc h
    unfold skipF at this
    rw [← hbP] at this
    exact this
  have HFl : Hid (∀ w, Par B b len M 0 0 s w → Calls Tryz.prog 48 #[.pointer (some ⟨b, 0, none⟩), .int .i64 130] w (RetP B b len M 0 0 (.tuple #[]) (failF len 130 s) w)) := Lib.hid fun w h => fail_p h
  have HDe : Hid (declP len s q = if bE then ((enumP len (takeF s)).1, ⟨q.enums ++ [(enumP len (takeF s)).2], q.vars, q.procs, q.main⟩) else if bV then ((varP len (takeF s)).1, ⟨q.enums, q.vars ++ [(varP len (takeF s)).2], q.procs, q.main⟩) else if bP then ((procP len (takeF s)).1, ⟨q.enums, q.vars, q.procs ++ [(procP len (takeF s)).2], q.main⟩) else (failF len 130 s, q)) := Lib.hid (by rw [hbE, hbV, hbP]; rfl)
  clear h hT hl hbE hbV hbP
  cases bE
  · cases bV
    · cases bP
      · have HRes : Hid (declP len s q = (failF len 130 s, q)) := Lib.hid (by rw [HDe.out]; rfl)
        go_enter Tryz.func50, Tryz.ntmps50
        go_upto_region 3 with (go_at_call 87; have HY := HS1.out _ S0.out.bx.par; (with_reducible refine HY.mono ?_); clear HY; rintro e w1 ⟨rfl, hp, hd⟩; have S1 := Lib.hid (S0.out.step hp hd); have T1 := Lib.hid (hd.blk T0.out (Nat.ne_of_gt S0.out.lo.2)); clear hp hd)
        go_upto_region 5 with (go_at_call 87; have HY := HS2.out _ S1.out.bx.par; (with_reducible refine HY.mono ?_); clear HY; rintro e w2 ⟨rfl, hp, hd⟩; have S2 := Lib.hid (S1.out.step hp hd); have T2 := Lib.hid (hd.blk T1.out (Nat.ne_of_gt S1.out.lo.2)); clear hp hd)
        go_upto_region 0 with (go_at_call 87; have HY := HS3.out _ S2.out.bx.par; (with_reducible refine HY.mono ?_); clear HY; rintro e w3 ⟨rfl, hp, hd⟩; have S3 := Lib.hid (S2.out.step hp hd); have T3 := Lib.hid (hd.blk T2.out (Nat.ne_of_gt S2.out.lo.2)); clear hp hd)
        go_wp2_with (go_at_call 48; have HY := HFl.out _ S3.out.bx.par; (with_reducible refine HY.mono ?_); clear HY; rintro e w4 ⟨rfl, hp, hd⟩; have S4 := Lib.hid (S3.out.step hp hd); have T4 := Lib.hid (hd.blk T3.out (Nat.ne_of_gt S3.out.lo.2)); clear hp hd)
        go_end0
        exact ⟨rfl, n, _, _, _, by rw [HRes.out]; exact S4.out, T4.out⟩
      · obtain ⟨a, ha⟩ : ∃ q, q = nameF len (takeF s) := ⟨_, rfl⟩
        have HNm : Hid (∀ w, Par B b len M 0 0 (takeF s) w → Calls Tryz.prog 90 #[.pointer (some ⟨b, 0, none⟩)] w (RetP B b len M 0 0 (.string (bA a.2)) a.1 w)) := Lib.hid fun w h => by rw [ha]; exact name_any h
        obtain ⟨r, hr⟩ : ∃ q, q = blkE len a.1 := ⟨_, rfl⟩
        have HBk : Hid (∀ w, Par B b len M 0 0 a.1 w → Calls Tryz.prog 52 #[.pointer (some ⟨b, 0, none⟩)] w (RetB B b len M 0 r w)) := Lib.hid fun w h => by
          rw [hr]
          exact block_any 18 0 rfl _ _ h ⟨by omega, fun _ => by omega⟩
        obtain ⟨a1, ha1⟩ : ∃ q, q = bA a.2 := ⟨_, rfl⟩
        have HRes : Hid (declP len s q = (r.1, ⟨q.enums, q.vars, q.procs ++ [(a1, r.2)], q.main⟩)) := Lib.hid (by rw [HDe.out, hr, ha1, ha]; rfl)
        rw [← ha1] at HNm
        clear ha hr ha1
        go_enter Tryz.func50, Tryz.ntmps50
        go_upto_region 3 with (go_at_call 87; have HY := HS1.out _ S0.out.bx.par; (with_reducible refine HY.mono ?_); clear HY; rintro e w1 ⟨rfl, hp, hd⟩; have S1 := Lib.hid (S0.out.step hp hd); have T1 := Lib.hid (hd.blk T0.out (Nat.ne_of_gt S0.out.lo.2)); clear hp hd)
        go_upto_region 5 with (go_at_call 87; have HY := HS2.out _ S1.out.bx.par; (with_reducible refine HY.mono ?_); clear HY; rintro e w2 ⟨rfl, hp, hd⟩; have S2 := Lib.hid (S1.out.step hp hd); have T2 := Lib.hid (hd.blk T1.out (Nat.ne_of_gt S1.out.lo.2)); clear hp hd)
        go_upto_region 6 with (go_at_call 87; have HY := HS3.out _ S2.out.bx.par; (with_reducible refine HY.mono ?_); clear HY; rintro e w3 ⟨rfl, hp, hd⟩; have S3 := Lib.hid (S2.out.step hp hd); have T3 := Lib.hid (hd.blk T2.out (Nat.ne_of_gt S2.out.lo.2)); clear hp hd)
        have SD : Hid (PB B b len M w g3 n q (.slice A1 q.enums.length c1) (.slice A2 q.vars.length c2) (.slice A3 q.procs.length c3) (takeF s) w3.drew) := Lib.hid (S3.out.below (Below.refl _ _).drew)
        have TD : Hid (Blk w3.drew g3 28 #[(.slice A1 q.enums.length c1), (.slice A2 q.vars.length c2), (.slice A3 q.procs.length c3), .slice none 0 0]) := Lib.hid T3.out
        obtain ⟨i0, hi0, hz0, hz1, hz2⟩ := info_parts prfo
        have HI0 := Lib.hid (And.intro hi0 (And.intro hz0 (And.intro hz1 hz2)))
        clear hi0 hz0 hz1 hz2
        refine wp_region_held_drew (S := fun _ => True) (by kernel_rfl) trivial (fun k0 => ?_)
        refine wpAnyH_take (i := 0) (oi := ⟨some 37, _, _, _, _, _⟩) (v := ?_) rfl (by kernel_rfl) (by kernel_rfl) (by kernel_rfl) (fun _ _ _ h => h) (Or.inl ⟨by rfl, ?_⟩) k0 ?_
        rotate_left
        · intro w hSw
          try dsimp only at hSw
          go_simp
          try with_reducible rfl
        try simp only [Act.put, List.setIfInBounds_toArray, List.set_cons_zero, List.set_cons_succ]
        refine wpAnyH_take (i := 1) (oi := ⟨some 38, _, _, _, _, _⟩) (v := ?_) rfl (by kernel_rfl) (by kernel_rfl) (by kernel_rfl) (fun _ _ _ h => h) (Or.inl ⟨by rfl, ?_⟩) k0 ?_
        rotate_left
        · intro w hSw
          try dsimp only at hSw
          go_simp
          try with_reducible rfl
        try simp only [Act.put, List.setIfInBounds_toArray, List.set_cons_zero, List.set_cons_succ]
        refine wpAnyH_take (i := 2) (oi := ⟨some 39, _, _, _, _, _⟩) (v := ?_) rfl (by kernel_rfl) (by kernel_rfl) (by kernel_rfl) (fun _ _ _ h => h) (Or.inl ⟨by rfl, ?_⟩) k0 ?_
        rotate_left
        · intro w hSw
          try dsimp only at hSw
          go_simp
          try with_reducible rfl
        try simp only [Act.put, List.setIfInBounds_toArray, List.set_cons_zero, List.set_cons_succ]
        refine wpAnyH_take (i := 3) (oi := ⟨some 40, _, _, _, _, _⟩) (v := ?_) rfl (by kernel_rfl) (by kernel_rfl) (by kernel_rfl) (fun _ _ _ h => h) (Or.inl ⟨by rfl, ?_⟩) k0 ?_
        rotate_left
        · intro w hSw
          try dsimp only at hSw
          go_simp
          try with_reducible rfl
        try simp only [Act.put, List.setIfInBounds_toArray, List.set_cons_zero, List.set_cons_succ]
        refine wpAnyH_take (i := 5) (oi := ⟨some 42, _, _, _, _, _⟩) (v := ?_) rfl (by kernel_rfl) (by kernel_rfl) (by kernel_rfl) (fun _ _ _ h => h) (Or.inl ⟨by rfl, ?_⟩) k0 ?_
        rotate_left
        · intro w hSw
          try dsimp only at hSw
          go_simp
          try with_reducible rfl
        try simp only [Act.put, List.setIfInBounds_toArray, List.set_cons_zero, List.set_cons_succ]
        refine wpAnyH_take (i := 7) (oi := ⟨some 44, _, _, _, _, _⟩) (v := ?_) rfl (by kernel_rfl) (by kernel_rfl) (by kernel_rfl) (fun _ _ _ h => h) (Or.inl ⟨by rfl, ?_⟩) k0 ?_
        rotate_left
        · intro w hSw
          try dsimp only at hSw
          go_simp
          try with_reducible rfl
        try simp only [Act.put, List.setIfInBounds_toArray, List.set_cons_zero, List.set_cons_succ]
        refine wpAnyH_ready (rs := [4, 6]) (by kernel_rfl) (by simp) ?_
        refine (AllReadyH.cons (o := ⟨some 41, _, _, _, _, _⟩) rfl (fun K' hK => ?_) (AllReadyH.cons (o := ⟨some 43, _, _, _, _, _⟩) rfl (fun K' hK => ?_) AllReadyH.nil))
        · have tf : w3.drew.cell? ⟨g3, 2, none⟩ = some (.slice A3 q.procs.length c3) := TD.out.cell 2
          go_simp
          refine hK.out _ _ trivial (fun h1 => ?_)
          clear hK K'
          try simp only [Act.put, List.setIfInBounds_toArray, List.set_cons_zero, List.set_cons_succ]
          clear tf
          refine wpAnyH_ready (rs := [6]) (by kernel_rfl) (by simp) ?_
          refine (AllReadyH.cons (o := ⟨some 43, _, _, _, _, _⟩) rfl (fun K' hK => ?_) AllReadyH.nil)
          go_simp
          refine (HNm.out _ SD.out.bx.par).mono ?_
          rintro e wn ⟨rfl, hp, hd⟩
          have Sn := Lib.hid (SD.out.step hp hd)
          have Tn := Lib.hid (hd.blk TD.out (Nat.ne_of_gt SD.out.lo.2))
          have Hn := Lib.hid hd
          clear hp hd
          go_wp2_with fail
          refine hK.out _ _ trivial (fun h2 => ?_)
          clear hK K'
          try simp only [Act.put, List.setIfInBounds_toArray, List.set_cons_zero, List.set_cons_succ]
          refine wpAnyH_ready (rs := [8]) (by kernel_rfl) (by simp) ?_
          refine (AllReadyH.cons (o := ⟨some 45, _, _, _, _, _⟩) rfl (fun K' hK => ?_) AllReadyH.nil)
          go_simp
          refine (HBk.out _ Sn.out.bx.par).mono ?_
          rintro e w4 ⟨nf, AL, mL, cL, rfl, hp, hd, hr⟩
          have R4 := Lib.hid (hr.wide (P' := fun q => w3.drew.heap.size ≤ q ∧ q < w4.heap.size) (fun q hq => ⟨Nat.le_trans Hn.out.size hq.1, hq.2⟩))
          have S4 := Lib.hid ((Sn.out.step hp hd).up (Nat.le_add_right n nf))
          have T4 := Lib.hid (hd.blk Tn.out (Nat.ne_of_gt SD.out.lo.2))
          clear hp hd hr
          go_wp2_with fail
          refine hK.out _ _ trivial (fun h3 => ?_)
          clear hK K'
          try simp only [Act.put, List.setIfInBounds_toArray, List.set_cons_zero, List.set_cons_succ]
          refine wpAnyH_take (i := 9) (oi := ⟨some 46, _, _, _, _, _⟩) (v := ?_) rfl (by kernel_rfl) (by kernel_rfl) (by kernel_rfl) (fun _ _ _ h => h) (Or.inl ⟨by rfl, ?_⟩) h3 ?_
          rotate_left
          · intro w hSw
            try dsimp only at hSw
            go_simp
            try with_reducible rfl
          try simp only [Act.put, List.setIfInBounds_toArray, List.set_cons_zero, List.set_cons_succ]
          refine wpAnyH_ready (rs := [10]) (by kernel_rfl) (by simp) ?_
          refine (AllReadyH.cons (o := ⟨some 47, _, _, _, _, _⟩) rfl (fun K' hK => ?_) AllReadyH.nil)
          have B5 : Hid (Below w4.heap.size w4 (w4.alloc (.cells #[.string a1, .slice AL mL cL] 73))) := Lib.hid ((Below.refl _ _).alloc (Nat.le_refl _) _)
          have S5 := Lib.hid (S4.out.below B5.out)
          have T5 := Lib.hid (T4.out.below B5.out T4.out.lt)
          have N5 := Lib.hid (Blk.new w4 73 #[.string a1, .slice AL mL cL])
          go_simp
          refine hK.out _ _ trivial (fun h4 => ?_)
          clear hK K'
          try simp only [Act.put, List.setIfInBounds_toArray, List.set_cons_zero, List.set_cons_succ]
          refine wpAnyH_ready (rs := [11]) (by kernel_rfl) (by simp) ?_
          refine (AllReadyH.cons (o := ⟨some 48, _, _, _, _, _⟩) rfl (fun K' hK => ?_) AllReadyH.nil)
          obtain ⟨css, hcs1, hcs2, hcs3⟩ := S5.out.pr
          rw [if_pos (by rfl)]
          refine wp_append_at (.tmp 41) (.tmp 47) 25 rfl (g3 + 1) 73 i0 (.agg #[.string ⟨#[]⟩, .slice none 0 0]) 2 40 Tryz.underlying25 HI0.out.1 HI0.out.2.1 HI0.out.2.2.1 HI0.out.2.2.2 rfl (by decide) (.slice A3 q.procs.length c3) q.procs.length css.flatten rfl hcs2 ⟨w4.heap.size, 0, none⟩ 1 1 [.string a1, .slice AL mL cL] rfl rfl (news_two N5.out) (one_two _ _ _ _) (by have := HL.out; unfold maxLen; omega) (by have := HL.out; omega) T5.out.lt ?_
          intro v6 w6 ho hg hv
          have T6 : Hid (Blk w6 g3 28 #[(.slice A1 q.enums.length c1), (.slice A2 q.vars.length c2), (.slice A3 q.procs.length c3), .slice none 0 0]) := Lib.hid ((hg.block g3 T5.out.lt (fun e => absurd (S5.out.pr.lt g3 e.symm).1 (Nat.not_succ_le_self _))).trans T5.out)
          have S6 := Lib.hid (S5.out.moreP (x := (a1, r.2)) hcs1 hcs3 ho hg hv rfl (⟨_, rfl, ((R4.out.kept (fun x hx => B5.out.block x hx.2)).wide (fun x hx => ⟨⟨Nat.le_trans TD.out.lt hx.1, Nat.lt_of_lt_of_le hx.2 B5.out.size, fun e => absurd (SD.out.pr.lt _ e).2 (Nat.not_lt.2 hx.1)⟩, fun e => by
              rcases e with e | e
              · exact absurd (SD.out.en.lt _ e).2 (Nat.not_lt.2 hx.1)
              · exact absurd (SD.out.va.lt _ e).2 (Nat.not_lt.2 hx.1)⟩)).le (Nat.le_add_left nf n)⟩))
          obtain ⟨A6, n6, c6, rfl⟩ : ∃ A n c, v6 = .slice A n c := by
            obtain ⟨A, c, e⟩ := ps_row_slice ho
            exact ⟨A, _, c, e⟩
          clear ho hg hv hcs1 hcs2 hcs3
          refine hK.out _ _ trivial (fun h9 => ?_)
          clear hK K'
          try simp only [Act.put, List.setIfInBounds_toArray, List.set_cons_zero, List.set_cons_succ]
          refine wpAnyH_take (i := 12) (oi := ⟨some 49, _, _, _, _, _⟩) (v := ?_) rfl (by kernel_rfl) (by kernel_rfl) (by kernel_rfl) (fun _ _ _ h => h) (Or.inl ⟨by rfl, ?_⟩) h9 ?_
          rotate_left
          · intro w hSw
            try dsimp only at hSw
            go_simp
            try with_reducible rfl
          try simp only [Act.put, List.setIfInBounds_toArray, List.set_cons_zero, List.set_cons_succ]
          refine wpAnyH_take (i := 13) (oi := ⟨some 50, _, _, _, _, _⟩) (v := ?_) rfl (by kernel_rfl) (by kernel_rfl) (by kernel_rfl) (fun _ _ _ h => h) (Or.inl ⟨by rfl, ?_⟩) h9 ?_
          rotate_left
          · intro w hSw
            try dsimp only at hSw
            go_simp
            try with_reducible rfl
          try simp only [Act.put, List.setIfInBounds_toArray, List.set_cons_zero, List.set_cons_succ]
          refine wpAnyH_ready (rs := [14]) (by kernel_rfl) (by simp) ?_
          refine (AllReadyH.cons (o := ⟨none, _, _, _, _, _⟩) rfl (fun K' hK => ?_) AllReadyH.nil)
          have t0 := T6.out.cell 2
          have t1 := T6.out.frozen 2
          have t2 := T6.out.lt
          simp at t0
          go_simp
          refine hK.out _ _ trivial (fun h10 => ?_)
          clear hK K'
          try simp only [Act.put, List.setIfInBounds_toArray, List.set_cons_zero, List.set_cons_succ]
          clear t0 t1 t2
          refine wpAnyH_done (by kernel_rfl) ?_ _
          have S7 := Lib.hid (S6.out.set_ 2 (.slice A6 n6 c6))
          have T7 := Lib.hid (T6.out.set_ 2 (.slice A6 n6 c6))
          go_wp2_with fail
          go_end0
          exact ⟨rfl, _, _, _, _, by rw [HRes.out]; exact S7.out, T7.out⟩
        · go_simp
          refine (HNm.out _ SD.out.bx.par).mono ?_
          rintro e wn ⟨rfl, hp, hd⟩
          have Sn := Lib.hid (SD.out.step hp hd)
          have Tn := Lib.hid (hd.blk TD.out (Nat.ne_of_gt SD.out.lo.2))
          have Hn := Lib.hid hd
          clear hp hd
          go_wp2_with fail
          refine hK.out _ _ trivial (fun h2 => ?_)
          clear hK K'
          try simp only [Act.put, List.setIfInBounds_toArray, List.set_cons_zero, List.set_cons_succ]
          refine wpAnyH_ready (rs := [4, 8]) (by kernel_rfl) (by simp) ?_
          refine (AllReadyH.cons (o := ⟨some 41, _, _, _, _, _⟩) rfl (fun K' hK => ?_) (AllReadyH.cons (o := ⟨some 45, _, _, _, _, _⟩) rfl (fun K' hK => ?_) AllReadyH.nil))
          · have tf : wn.cell? ⟨g3, 2, none⟩ = some (.slice A3 q.procs.length c3) := Tn.out.cell 2
            go_simp
            refine hK.out _ _ trivial (fun h3 => ?_)
            clear hK K'
            try simp only [Act.put, List.setIfInBounds_toArray, List.set_cons_zero, List.set_cons_succ]
            clear tf
            refine wpAnyH_ready (rs := [8]) (by kernel_rfl) (by simp) ?_
            refine (AllReadyH.cons (o := ⟨some 45, _, _, _, _, _⟩) rfl (fun K' hK => ?_) AllReadyH.nil)
            go_simp
            refine (HBk.out _ Sn.out.bx.par).mono ?_
            rintro e w4 ⟨nf, AL, mL, cL, rfl, hp, hd, hr⟩
            have R4 := Lib.hid (hr.wide (P' := fun q => w3.drew.heap.size ≤ q ∧ q < w4.heap.size) (fun q hq => ⟨Nat.le_trans Hn.out.size hq.1, hq.2⟩))
            have S4 := Lib.hid ((Sn.out.step hp hd).up (Nat.le_add_right n nf))
            have T4 := Lib.hid (hd.blk Tn.out (Nat.ne_of_gt SD.out.lo.2))
            clear hp hd hr
            go_wp2_with fail
            refine hK.out _ _ trivial (fun h4 => ?_)
            clear hK K'
            try simp only [Act.put, List.setIfInBounds_toArray, List.set_cons_zero, List.set_cons_succ]
            refine wpAnyH_take (i := 9) (oi := ⟨some 46, _, _, _, _, _⟩) (v := ?_) rfl (by kernel_rfl) (by kernel_rfl) (by kernel_rfl) (fun _ _ _ h => h) (Or.inl ⟨by rfl, ?_⟩) h4 ?_
            rotate_left
            · intro w hSw
              try dsimp only at hSw
              go_simp
              try with_reducible rfl
            try simp only [Act.put, List.setIfInBounds_toArray, List.set_cons_zero, List.set_cons_succ]
            refine wpAnyH_ready (rs := [10]) (by kernel_rfl) (by simp) ?_
            refine (AllReadyH.cons (o := ⟨some 47, _, _, _, _, _⟩) rfl (fun K' hK => ?_) AllReadyH.nil)
            have B5 : Hid (Below w4.heap.size w4 (w4.alloc (.cells #[.string a1, .slice AL mL cL] 73))) := Lib.hid ((Below.refl _ _).alloc (Nat.le_refl _) _)
            have S5 := Lib.hid (S4.out.below B5.out)
            have T5 := Lib.hid (T4.out.below B5.out T4.out.lt)
            have N5 := Lib.hid (Blk.new w4 73 #[.string a1, .slice AL mL cL])
            go_simp
            refine hK.out _ _ trivial (fun h5 => ?_)
            clear hK K'
            try simp only [Act.put, List.setIfInBounds_toArray, List.set_cons_zero, List.set_cons_succ]
            refine wpAnyH_ready (rs := [11]) (by kernel_rfl) (by simp) ?_
            refine (AllReadyH.cons (o := ⟨some 48, _, _, _, _, _⟩) rfl (fun K' hK => ?_) AllReadyH.nil)
            obtain ⟨css, hcs1, hcs2, hcs3⟩ := S5.out.pr
            rw [if_pos (by rfl)]
            refine wp_append_at (.tmp 41) (.tmp 47) 25 rfl (g3 + 1) 73 i0 (.agg #[.string ⟨#[]⟩, .slice none 0 0]) 2 40 Tryz.underlying25 HI0.out.1 HI0.out.2.1 HI0.out.2.2.1 HI0.out.2.2.2 rfl (by decide) (.slice A3 q.procs.length c3) q.procs.length css.flatten rfl hcs2 ⟨w4.heap.size, 0, none⟩ 1 1 [.string a1, .slice AL mL cL] rfl rfl (news_two N5.out) (one_two _ _ _ _) (by have := HL.out; unfold maxLen; omega) (by have := HL.out; omega) T5.out.lt ?_
            intro v6 w6 ho hg hv
            have T6 : Hid (Blk w6 g3 28 #[(.slice A1 q.enums.length c1), (.slice A2 q.vars.length c2), (.slice A3 q.procs.length c3), .slice none 0 0]) := Lib.hid ((hg.block g3 T5.out.lt (fun e => absurd (S5.out.pr.lt g3 e.symm).1 (Nat.not_succ_le_self _))).trans T5.out)
            have S6 := Lib.hid (S5.out.moreP (x := (a1, r.2)) hcs1 hcs3 ho hg hv rfl (⟨_, rfl, ((R4.out.kept (fun x hx => B5.out.block x hx.2)).wide (fun x hx => ⟨⟨Nat.le_trans TD.out.lt hx.1, Nat.lt_of_lt_of_le hx.2 B5.out.size, fun e => absurd (SD.out.pr.lt _ e).2 (Nat.not_lt.2 hx.1)⟩, fun e => by
                rcases e with e | e
                · exact absurd (SD.out.en.lt _ e).2 (Nat.not_lt.2 hx.1)
                · exact absurd (SD.out.va.lt _ e).2 (Nat.not_lt.2 hx.1)⟩)).le (Nat.le_add_left nf n)⟩))
            obtain ⟨A6, n6, c6, rfl⟩ : ∃ A n c, v6 = .slice A n c := by
              obtain ⟨A, c, e⟩ := ps_row_slice ho
              exact ⟨A, _, c, e⟩
            clear ho hg hv hcs1 hcs2 hcs3
            refine hK.out _ _ trivial (fun h9 => ?_)
            clear hK K'
            try simp only [Act.put, List.setIfInBounds_toArray, List.set_cons_zero, List.set_cons_succ]
            refine wpAnyH_take (i := 12) (oi := ⟨some 49, _, _, _, _, _⟩) (v := ?_) rfl (by kernel_rfl) (by kernel_rfl) (by kernel_rfl) (fun _ _ _ h => h) (Or.inl ⟨by rfl, ?_⟩) h9 ?_
            rotate_left
            · intro w hSw
              try dsimp only at hSw
              go_simp
              try with_reducible rfl
            try simp only [Act.put, List.setIfInBounds_toArray, List.set_cons_zero, List.set_cons_succ]
            refine wpAnyH_take (i := 13) (oi := ⟨some 50, _, _, _, _, _⟩) (v := ?_) rfl (by kernel_rfl) (by kernel_rfl) (by kernel_rfl) (fun _ _ _ h => h) (Or.inl ⟨by rfl, ?_⟩) h9 ?_
            rotate_left
            · intro w hSw
              try dsimp only at hSw
              go_simp
              try with_reducible rfl
            try simp only [Act.put, List.setIfInBounds_toArray, List.set_cons_zero, List.set_cons_succ]
            refine wpAnyH_ready (rs := [14]) (by kernel_rfl) (by simp) ?_
            refine (AllReadyH.cons (o := ⟨none, _, _, _, _, _⟩) rfl (fun K' hK => ?_) AllReadyH.nil)
            have t0 := T6.out.cell 2
            have t1 := T6.out.frozen 2
            have t2 := T6.out.lt
            simp at t0
            go_simp
            refine hK.out _ _ trivial (fun h10 => ?_)
            clear hK K'
            try simp only [Act.put, List.setIfInBounds_toArray, List.set_cons_zero, List.set_cons_succ]
            clear t0 t1 t2
            refine wpAnyH_done (by kernel_rfl) ?_ _
            have S7 := Lib.hid (S6.out.set_ 2 (.slice A6 n6 c6))
            have T7 := Lib.hid (T6.out.set_ 2 (.slice A6 n6 c6))
            go_wp2_with fail
            go_end0
            exact ⟨rfl, _, _, _, _, by rw [HRes.out]; exact S7.out, T7.out⟩
          · go_simp
            refine (HBk.out _ Sn.out.bx.par).mono ?_
            rintro e w4 ⟨nf, AL, mL, cL, rfl, hp, hd, hr⟩
            have R4 := Lib.hid (hr.wide (P' := fun q => w3.drew.heap.size ≤ q ∧ q < w4.heap.size) (fun q hq => ⟨Nat.le_trans Hn.out.size hq.1, hq.2⟩))
            have S4 := Lib.hid ((Sn.out.step hp hd).up (Nat.le_add_right n nf))
            have T4 := Lib.hid (hd.blk Tn.out (Nat.ne_of_gt SD.out.lo.2))
            clear hp hd hr
            go_wp2_with fail
            refine hK.out _ _ trivial (fun h3 => ?_)
            clear hK K'
            try simp only [Act.put, List.setIfInBounds_toArray, List.set_cons_zero, List.set_cons_succ]
            refine wpAnyH_take (i := 9) (oi := ⟨some 46, _, _, _, _, _⟩) (v := ?_) rfl (by kernel_rfl) (by kernel_rfl) (by kernel_rfl) (fun _ _ _ h => h) (Or.inl ⟨by rfl, ?_⟩) h3 ?_
            rotate_left
            · intro w hSw
              try dsimp only at hSw
              go_simp
              try with_reducible rfl
            try simp only [Act.put, List.setIfInBounds_toArray, List.set_cons_zero, List.set_cons_succ]
            refine wpAnyH_ready (rs := [4, 10]) (by kernel_rfl) (by simp) ?_
            refine (AllReadyH.cons (o := ⟨some 41, _, _, _, _, _⟩) rfl (fun K' hK => ?_) (AllReadyH.cons (o := ⟨some 47, _, _, _, _, _⟩) rfl (fun K' hK => ?_) AllReadyH.nil))
            · have tf : w4.cell? ⟨g3, 2, none⟩ = some (.slice A3 q.procs.length c3) := T4.out.cell 2
              go_simp
              refine hK.out _ _ trivial (fun h4 => ?_)
              clear hK K'
              try simp only [Act.put, List.setIfInBounds_toArray, List.set_cons_zero, List.set_cons_succ]
              clear tf
              refine wpAnyH_ready (rs := [10]) (by kernel_rfl) (by simp) ?_
              refine (AllReadyH.cons (o := ⟨some 47, _, _, _, _, _⟩) rfl (fun K' hK => ?_) AllReadyH.nil)
              have B5 : Hid (Below w4.heap.size w4 (w4.alloc (.cells #[.string a1, .slice AL mL cL] 73))) := Lib.hid ((Below.refl _ _).alloc (Nat.le_refl _) _)
              have S5 := Lib.hid (S4.out.below B5.out)
              have T5 := Lib.hid (T4.out.below B5.out T4.out.lt)
              have N5 := Lib.hid (Blk.new w4 73 #[.string a1, .slice AL mL cL])
              go_simp
              refine hK.out _ _ trivial (fun h5 => ?_)
              clear hK K'
              try simp only [Act.put, List.setIfInBounds_toArray, List.set_cons_zero, List.set_cons_succ]
              refine wpAnyH_ready (rs := [11]) (by kernel_rfl) (by simp) ?_
              refine (AllReadyH.cons (o := ⟨some 48, _, _, _, _, _⟩) rfl (fun K' hK => ?_) AllReadyH.nil)
              obtain ⟨css, hcs1, hcs2, hcs3⟩ := S5.out.pr
              rw [if_pos (by rfl)]
              refine wp_append_at (.tmp 41) (.tmp 47) 25 rfl (g3 + 1) 73 i0 (.agg #[.string ⟨#[]⟩, .slice none 0 0]) 2 40 Tryz.underlying25 HI0.out.1 HI0.out.2.1 HI0.out.2.2.1 HI0.out.2.2.2 rfl (by decide) (.slice A3 q.procs.length c3) q.procs.length css.flatten rfl hcs2 ⟨w4.heap.size, 0, none⟩ 1 1 [.string a1, .slice AL mL cL] rfl rfl (news_two N5.out) (one_two _ _ _ _) (by have := HL.out; unfold maxLen; omega) (by have := HL.out; omega) T5.out.lt ?_
              intro v6 w6 ho hg hv
              have T6 : Hid (Blk w6 g3 28 #[(.slice A1 q.enums.length c1), (.slice A2 q.vars.length c2), (.slice A3 q.procs.length c3), .slice none 0 0]) := Lib.hid ((hg.block g3 T5.out.lt (fun e => absurd (S5.out.pr.lt g3 e.symm).1 (Nat.not_succ_le_self _))).trans T5.out)
              have S6 := Lib.hid (S5.out.moreP (x := (a1, r.2)) hcs1 hcs3 ho hg hv rfl (⟨_, rfl, ((R4.out.kept (fun x hx => B5.out.block x hx.2)).wide (fun x hx => ⟨⟨Nat.le_trans TD.out.lt hx.1, Nat.lt_of_lt_of_le hx.2 B5.out.size, fun e => absurd (SD.out.pr.lt _ e).2 (Nat.not_lt.2 hx.1)⟩, fun e => by
                  rcases e with e | e
                  · exact absurd (SD.out.en.lt _ e).2 (Nat.not_lt.2 hx.1)
                  · exact absurd (SD.out.va.lt _ e).2 (Nat.not_lt.2 hx.1)⟩)).le (Nat.le_add_left nf n)⟩))
              obtain ⟨A6, n6, c6, rfl⟩ : ∃ A n c, v6 = .slice A n c := by
                obtain ⟨A, c, e⟩ := ps_row_slice ho
                exact ⟨A, _, c, e⟩
              clear ho hg hv hcs1 hcs2 hcs3
              refine hK.out _ _ trivial (fun h9 => ?_)
              clear hK K'
              try simp only [Act.put, List.setIfInBounds_toArray, List.set_cons_zero, List.set_cons_succ]
              refine wpAnyH_take (i := 12) (oi := ⟨some 49, _, _, _, _, _⟩) (v := ?_) rfl (by kernel_rfl) (by kernel_rfl) (by kernel_rfl) (fun _ _ _ h => h) (Or.inl ⟨by rfl, ?_⟩) h9 ?_
              rotate_left
              · intro w hSw
                try dsimp only at hSw
                go_simp
                try with_reducible rfl
              try simp only [Act.put, List.setIfInBounds_toArray, List.set_cons_zero, List.set_cons_succ]
              refine wpAnyH_take (i := 13) (oi := ⟨some 50, _, _, _, _, _⟩) (v := ?_) rfl (by kernel_rfl) (by kernel_rfl) (by kernel_rfl) (fun _ _ _ h => h) (Or.inl ⟨by rfl, ?_⟩) h9 ?_
              rotate_left
              · intro w hSw
                try dsimp only at hSw
                go_simp
                try with_reducible rfl
              try simp only [Act.put, List.setIfInBounds_toArray, List.set_cons_zero, List.set_cons_succ]
              refine wpAnyH_ready (rs := [14]) (by kernel_rfl) (by simp) ?_
              refine (AllReadyH.cons (o := ⟨none, _, _, _, _, _⟩) rfl (fun K' hK => ?_) AllReadyH.nil)
              have t0 := T6.out.cell 2
              have t1 := T6.out.frozen 2
              have t2 := T6.out.lt
              simp at t0
              go_simp
              refine hK.out _ _ trivial (fun h10 => ?_)
              clear hK K'
              try simp only [Act.put, List.setIfInBounds_toArray, List.set_cons_zero, List.set_cons_succ]
              clear t0 t1 t2
              refine wpAnyH_done (by kernel_rfl) ?_ _
              have S7 := Lib.hid (S6.out.set_ 2 (.slice A6 n6 c6))
              have T7 := Lib.hid (T6.out.set_ 2 (.slice A6 n6 c6))
              go_wp2_with fail
              go_end0
              exact ⟨rfl, _, _, _, _, by rw [HRes.out]; exact S7.out, T7.out⟩
            · have B5 : Hid (Below w4.heap.size w4 (w4.alloc (.cells #[.string a1, .slice AL mL cL] 73))) := Lib.hid ((Below.refl _ _).alloc (Nat.le_refl _) _)
              have S5 := Lib.hid (S4.out.below B5.out)
              have T5 := Lib.hid (T4.out.below B5.out T4.out.lt)
              have N5 := Lib.hid (Blk.new w4 73 #[.string a1, .slice AL mL cL])
              go_simp
              refine hK.out _ _ trivial (fun h4 => ?_)
              clear hK K'
              try simp only [Act.put, List.setIfInBounds_toArray, List.set_cons_zero, List.set_cons_succ]
              refine wpAnyH_ready (rs := [4]) (by kernel_rfl) (by simp) ?_
              refine (AllReadyH.cons (o := ⟨some 41, _, _, _, _, _⟩) rfl (fun K' hK => ?_) AllReadyH.nil)
              have tf : (w4.alloc (.cells #[.string a1, .slice AL mL cL] 73)).cell? ⟨g3, 2, none⟩ = some (.slice A3 q.procs.length c3) := T5.out.cell 2
              go_simp
              refine hK.out _ _ trivial (fun h5 => ?_)
              clear hK K'
              try simp only [Act.put, List.setIfInBounds_toArray, List.set_cons_zero, List.set_cons_succ]
              clear tf
              refine wpAnyH_ready (rs := [11]) (by kernel_rfl) (by simp) ?_
              refine (AllReadyH.cons (o := ⟨some 48, _, _, _, _, _⟩) rfl (fun K' hK => ?_) AllReadyH.nil)
              obtain ⟨css, hcs1, hcs2, hcs3⟩ := S5.out.pr
              rw [if_pos (by rfl)]
              refine wp_append_at (.tmp 41) (.tmp 47) 25 rfl (g3 + 1) 73 i0 (.agg #[.string ⟨#[]⟩, .slice none 0 0]) 2 40 Tryz.underlying25 HI0.out.1 HI0.out.2.1 HI0.out.2.2.1 HI0.out.2.2.2 rfl (by decide) (.slice A3 q.procs.length c3) q.procs.length css.flatten rfl hcs2 ⟨w4.heap.size, 0, none⟩ 1 1 [.string a1, .slice AL mL cL] rfl rfl (news_two N5.out) (one_two _ _ _ _) (by have := HL.out; unfold maxLen; omega) (by have := HL.out; omega) T5.out.lt ?_
              intro v6 w6 ho hg hv
              have T6 : Hid (Blk w6 g3 28 #[(.slice A1 q.enums.length c1), (.slice A2 q.vars.length c2), (.slice A3 q.procs.length c3), .slice none 0 0]) := Lib.hid ((hg.block g3 T5.out.lt (fun e => absurd (S5.out.pr.lt g3 e.symm).1 (Nat.not_succ_le_self _))).trans T5.out)
              have S6 := Lib.hid (S5.out.moreP (x := (a1, r.2)) hcs1 hcs3 ho hg hv rfl (⟨_, rfl, ((R4.out.kept (fun x hx => B5.out.block x hx.2)).wide (fun x hx => ⟨⟨Nat.le_trans TD.out.lt hx.1, Nat.lt_of_lt_of_le hx.2 B5.out.size, fun e => absurd (SD.out.pr.lt _ e).2 (Nat.not_lt.2 hx.1)⟩, fun e => by
                  rcases e with e | e
                  · exact absurd (SD.out.en.lt _ e).2 (Nat.not_lt.2 hx.1)
                  · exact absurd (SD.out.va.lt _ e).2 (Nat.not_lt.2 hx.1)⟩)).le (Nat.le_add_left nf n)⟩))
              obtain ⟨A6, n6, c6, rfl⟩ : ∃ A n c, v6 = .slice A n c := by
                obtain ⟨A, c, e⟩ := ps_row_slice ho
                exact ⟨A, _, c, e⟩
              clear ho hg hv hcs1 hcs2 hcs3
              refine hK.out _ _ trivial (fun h9 => ?_)
              clear hK K'
              try simp only [Act.put, List.setIfInBounds_toArray, List.set_cons_zero, List.set_cons_succ]
              refine wpAnyH_take (i := 12) (oi := ⟨some 49, _, _, _, _, _⟩) (v := ?_) rfl (by kernel_rfl) (by kernel_rfl) (by kernel_rfl) (fun _ _ _ h => h) (Or.inl ⟨by rfl, ?_⟩) h9 ?_
              rotate_left
              · intro w hSw
                try dsimp only at hSw
                go_simp
                try with_reducible rfl
              try simp only [Act.put, List.setIfInBounds_toArray, List.set_cons_zero, List.set_cons_succ]
              refine wpAnyH_take (i := 13) (oi := ⟨some 50, _, _, _, _, _⟩) (v := ?_) rfl (by kernel_rfl) (by kernel_rfl) (by kernel_rfl) (fun _ _ _ h => h) (Or.inl ⟨by rfl, ?_⟩) h9 ?_
              rotate_left
              · intro w hSw
                try dsimp only at hSw
                go_simp
                try with_reducible rfl
              try simp only [Act.put, List.setIfInBounds_toArray, List.set_cons_zero, List.set_cons_succ]
              refine wpAnyH_ready (rs := [14]) (by kernel_rfl) (by simp) ?_
              refine (AllReadyH.cons (o := ⟨none, _, _, _, _, _⟩) rfl (fun K' hK => ?_) AllReadyH.nil)
              have t0 := T6.out.cell 2
              have t1 := T6.out.frozen 2
              have t2 := T6.out.lt
              simp at t0
              go_simp
              refine hK.out _ _ trivial (fun h10 => ?_)
              clear hK K'
              try simp only [Act.put, List.setIfInBounds_toArray, List.set_cons_zero, List.set_cons_succ]
              clear t0 t1 t2
              refine wpAnyH_done (by kernel_rfl) ?_ _
              have S7 := Lib.hid (S6.out.set_ 2 (.slice A6 n6 c6))
              have T7 := Lib.hid (T6.out.set_ 2 (.slice A6 n6 c6))
              go_wp2_with fail
              go_end0
              exact ⟨rfl, _, _, _, _, by rw [HRes.out]; exact S7.out, T7.out⟩
    · obtain ⟨r, hr⟩ : ∃ q, q = varP len (takeF s) := ⟨_, rfl⟩
      have HC : Hid (∀ w, Par B b len M 0 0 (takeF s) w → Calls Tryz.prog 89 #[.pointer (some ⟨b, 0, none⟩)] w (RetP B b len M 0 0 (.agg #[.string r.2.1, .string r.2.2.1, .int .i64 r.2.2.2]) r.1 w)) := Lib.hid fun w h => by rw [hr]; exact variable_any h
      have HIn : Hid (In64 r.2.2.2) := Lib.hid (by rw [hr]; exact var_in HTb.out.1 (sub_take HTb.out.2))
      have HRes : Hid (declP len s q = (r.1, ⟨q.enums, q.vars ++ [r.2], q.procs, q.main⟩)) := Lib.hid (by rw [HDe.out, hr]; rfl)
      clear hr
      go_enter Tryz.func50, Tryz.ntmps50
      go_upto_region 3 with (go_at_call 87; have HY := HS1.out _ S0.out.bx.par; (with_reducible refine HY.mono ?_); clear HY; rintro e w1 ⟨rfl, hp, hd⟩; have S1 := Lib.hid (S0.out.step hp hd); have T1 := Lib.hid (hd.blk T0.out (Nat.ne_of_gt S0.out.lo.2)); clear hp hd)
      go_upto_region 4 with (go_at_call 87; have HY := HS2.out _ S1.out.bx.par; (with_reducible refine HY.mono ?_); clear HY; rintro e w2 ⟨rfl, hp, hd⟩; have S2 := Lib.hid (S1.out.step hp hd); have T2 := Lib.hid (hd.blk T1.out (Nat.ne_of_gt S1.out.lo.2)); clear hp hd)
      have SD : Hid (PB B b len M w g3 n q (.slice A1 q.enums.length c1) (.slice A2 q.vars.length c2) (.slice A3 q.procs.length c3) (takeF s) w2.drew) := Lib.hid (S2.out.below (Below.refl _ _).drew)
      have TD : Hid (Blk w2.drew g3 28 #[(.slice A1 q.enums.length c1), (.slice A2 q.vars.length c2), (.slice A3 q.procs.length c3), .slice none 0 0]) := Lib.hid T2.out
      obtain ⟨i0, hi0, hz0, hz1, hz2⟩ := info_parts vafo
      have HI0 := Lib.hid (And.intro hi0 (And.intro hz0 (And.intro hz1 hz2)))
      clear hi0 hz0 hz1 hz2
      refine wp_region_held_drew (S := fun _ => True) (by kernel_rfl) trivial (fun k0 => ?_)
      refine wpAnyH_take (i := 0) (oi := ⟨some 23, _, _, _, _, _⟩) (v := ?_) rfl (by kernel_rfl) (by kernel_rfl) (by kernel_rfl) (fun _ _ _ h => h) (Or.inl ⟨by rfl, ?_⟩) k0 ?_
      rotate_left
      · intro w hSw
        try dsimp only at hSw
        go_simp
        try with_reducible rfl
      try simp only [Act.put, List.setIfInBounds_toArray, List.set_cons_zero, List.set_cons_succ]
      refine wpAnyH_take (i := 1) (oi := ⟨some 24, _, _, _, _, _⟩) (v := ?_) rfl (by kernel_rfl) (by kernel_rfl) (by kernel_rfl) (fun _ _ _ h => h) (Or.inl ⟨by rfl, ?_⟩) k0 ?_
      rotate_left
      · intro w hSw
        try dsimp only at hSw
        go_simp
        try with_reducible rfl
      try simp only [Act.put, List.setIfInBounds_toArray, List.set_cons_zero, List.set_cons_succ]
      refine wpAnyH_take (i := 2) (oi := ⟨some 25, _, _, _, _, _⟩) (v := ?_) rfl (by kernel_rfl) (by kernel_rfl) (by kernel_rfl) (fun _ _ _ h => h) (Or.inl ⟨by rfl, ?_⟩) k0 ?_
      rotate_left
      · intro w hSw
        try dsimp only at hSw
        go_simp
        try with_reducible rfl
      try simp only [Act.put, List.setIfInBounds_toArray, List.set_cons_zero, List.set_cons_succ]
      refine wpAnyH_take (i := 3) (oi := ⟨some 26, _, _, _, _, _⟩) (v := ?_) rfl (by kernel_rfl) (by kernel_rfl) (by kernel_rfl) (fun _ _ _ h => h) (Or.inl ⟨by rfl, ?_⟩) k0 ?_
      rotate_left
      · intro w hSw
        try dsimp only at hSw
        go_simp
        try with_reducible rfl
      try simp only [Act.put, List.setIfInBounds_toArray, List.set_cons_zero, List.set_cons_succ]
      refine wpAnyH_take (i := 5) (oi := ⟨some 28, _, _, _, _, _⟩) (v := ?_) rfl (by kernel_rfl) (by kernel_rfl) (by kernel_rfl) (fun _ _ _ h => h) (Or.inl ⟨by rfl, ?_⟩) k0 ?_
      rotate_left
      · intro w hSw
        try dsimp only at hSw
        go_simp
        try with_reducible rfl
      try simp only [Act.put, List.setIfInBounds_toArray, List.set_cons_zero, List.set_cons_succ]
      refine wpAnyH_ready (rs := [4, 6]) (by kernel_rfl) (by simp) ?_
      refine (AllReadyH.cons (o := ⟨some 27, _, _, _, _, _⟩) rfl (fun K' hK => ?_) (AllReadyH.cons (o := ⟨some 29, _, _, _, _, _⟩) rfl (fun K' hK => ?_) AllReadyH.nil))
      · have tf : w2.drew.cell? ⟨g3, 1, none⟩ = some (.slice A2 q.vars.length c2) := TD.out.cell 1
        go_simp
        refine hK.out _ _ trivial (fun h1 => ?_)
        clear hK K'
        try simp only [Act.put, List.setIfInBounds_toArray, List.set_cons_zero, List.set_cons_succ]
        clear tf
        refine wpAnyH_ready (rs := [6]) (by kernel_rfl) (by simp) ?_
        refine (AllReadyH.cons (o := ⟨some 29, _, _, _, _, _⟩) rfl (fun K' hK => ?_) AllReadyH.nil)
        go_simp
        refine (HC.out _ SD.out.bx.par).mono ?_
        rintro e w4 ⟨rfl, hp, hd⟩
        have S4 := Lib.hid (SD.out.step hp hd)
        have T4 := Lib.hid (hd.blk TD.out (Nat.ne_of_gt SD.out.lo.2))
        clear hp hd
        go_wp2_with fail
        refine hK.out _ _ trivial (fun h2 => ?_)
        clear hK K'
        try simp only [Act.put, List.setIfInBounds_toArray, List.set_cons_zero, List.set_cons_succ]
        refine wpAnyH_ready (rs := [7]) (by kernel_rfl) (by simp) ?_
        refine (AllReadyH.cons (o := ⟨some 30, _, _, _, _, _⟩) rfl (fun K' hK => ?_) AllReadyH.nil)
        have B5 : Hid (Below w4.heap.size w4 (w4.alloc (.cells #[.string r.2.1, .string r.2.2.1, .int .i64 r.2.2.2] 70))) := Lib.hid ((Below.refl _ _).alloc (Nat.le_refl _) _)
        have S5 := Lib.hid (S4.out.below B5.out)
        have T5 := Lib.hid (T4.out.below B5.out T4.out.lt)
        have N5 := Lib.hid (Blk.new w4 70 #[.string r.2.1, .string r.2.2.1, .int .i64 r.2.2.2])
        go_simp
        refine hK.out _ _ trivial (fun h3 => ?_)
        clear hK K'
        try simp only [Act.put, List.setIfInBounds_toArray, List.set_cons_zero, List.set_cons_succ]
        refine wpAnyH_ready (rs := [8]) (by kernel_rfl) (by simp) ?_
        refine (AllReadyH.cons (o := ⟨some 31, _, _, _, _, _⟩) rfl (fun K' hK => ?_) AllReadyH.nil)
        obtain ⟨css, hcs1, hcs2, hcs3⟩ := S5.out.va
        rw [if_pos (by rfl)]
        refine wp_append_at (.tmp 27) (.tmp 30) 24 rfl (g3 + 1) 70 i0 (.agg #[.string ⟨#[]⟩, .string ⟨#[]⟩, .int .i64 0]) 3 40 Tryz.underlying24 HI0.out.1 HI0.out.2.1 HI0.out.2.2.1 HI0.out.2.2.2 rfl (by decide) (.slice A2 q.vars.length c2) q.vars.length css.flatten rfl hcs2 ⟨w4.heap.size, 0, none⟩ 1 1 [.string r.2.1, .string r.2.2.1, .int .i64 r.2.2.2] rfl rfl (news_three N5.out) (one_three _ _ _) (by have := HL.out; unfold maxLen; omega) (by have := HL.out; omega) T5.out.lt ?_
        intro v6 w6 ho hg hv
        have T6 : Hid (Blk w6 g3 28 #[(.slice A1 q.enums.length c1), (.slice A2 q.vars.length c2), (.slice A3 q.procs.length c3), .slice none 0 0]) := Lib.hid ((hg.block g3 T5.out.lt (fun e => absurd (S5.out.va.lt g3 e.symm).1 (Nat.not_succ_le_self _))).trans T5.out)
        have S6 := Lib.hid (S5.out.moreV (x := r.2) hcs1 hcs3 ho hg hv rfl (⟨rfl, HIn.out⟩))
        obtain ⟨A6, n6, c6, rfl⟩ : ∃ A n c, v6 = .slice A n c := by
          obtain ⟨A, c, e⟩ := ps_row_slice ho
          exact ⟨A, _, c, e⟩
        clear ho hg hv hcs1 hcs2 hcs3
        refine hK.out _ _ trivial (fun h9 => ?_)
        clear hK K'
        try simp only [Act.put, List.setIfInBounds_toArray, List.set_cons_zero, List.set_cons_succ]
        refine wpAnyH_take (i := 9) (oi := ⟨some 32, _, _, _, _, _⟩) (v := ?_) rfl (by kernel_rfl) (by kernel_rfl) (by kernel_rfl) (fun _ _ _ h => h) (Or.inl ⟨by rfl, ?_⟩) h9 ?_
        rotate_left
        · intro w hSw
          try dsimp only at hSw
          go_simp
          try with_reducible rfl
        try simp only [Act.put, List.setIfInBounds_toArray, List.set_cons_zero, List.set_cons_succ]
        refine wpAnyH_take (i := 10) (oi := ⟨some 33, _, _, _, _, _⟩) (v := ?_) rfl (by kernel_rfl) (by kernel_rfl) (by kernel_rfl) (fun _ _ _ h => h) (Or.inl ⟨by rfl, ?_⟩) h9 ?_
        rotate_left
        · intro w hSw
          try dsimp only at hSw
          go_simp
          try with_reducible rfl
        try simp only [Act.put, List.setIfInBounds_toArray, List.set_cons_zero, List.set_cons_succ]
        refine wpAnyH_ready (rs := [11]) (by kernel_rfl) (by simp) ?_
        refine (AllReadyH.cons (o := ⟨none, _, _, _, _, _⟩) rfl (fun K' hK => ?_) AllReadyH.nil)
        have t0 := T6.out.cell 1
        have t1 := T6.out.frozen 1
        have t2 := T6.out.lt
        simp at t0
        go_simp
        refine hK.out _ _ trivial (fun h10 => ?_)
        clear hK K'
        try simp only [Act.put, List.setIfInBounds_toArray, List.set_cons_zero, List.set_cons_succ]
        clear t0 t1 t2
        refine wpAnyH_done (by kernel_rfl) ?_ _
        have S7 := Lib.hid (S6.out.set_ 1 (.slice A6 n6 c6))
        have T7 := Lib.hid (T6.out.set_ 1 (.slice A6 n6 c6))
        go_wp2_with fail
        go_end0
        exact ⟨rfl, _, _, _, _, by rw [HRes.out]; exact S7.out, T7.out⟩
      · go_simp
        refine (HC.out _ SD.out.bx.par).mono ?_
        rintro e w4 ⟨rfl, hp, hd⟩
        have S4 := Lib.hid (SD.out.step hp hd)
        have T4 := Lib.hid (hd.blk TD.out (Nat.ne_of_gt SD.out.lo.2))
        clear hp hd
        go_wp2_with fail
        refine hK.out _ _ trivial (fun h2 => ?_)
        clear hK K'
        try simp only [Act.put, List.setIfInBounds_toArray, List.set_cons_zero, List.set_cons_succ]
        refine wpAnyH_ready (rs := [4, 7]) (by kernel_rfl) (by simp) ?_
        refine (AllReadyH.cons (o := ⟨some 27, _, _, _, _, _⟩) rfl (fun K' hK => ?_) (AllReadyH.cons (o := ⟨some 30, _, _, _, _, _⟩) rfl (fun K' hK => ?_) AllReadyH.nil))
        · have tf : w4.cell? ⟨g3, 1, none⟩ = some (.slice A2 q.vars.length c2) := T4.out.cell 1
          go_simp
          refine hK.out _ _ trivial (fun h3 => ?_)
          clear hK K'
          try simp only [Act.put, List.setIfInBounds_toArray, List.set_cons_zero, List.set_cons_succ]
          clear tf
          refine wpAnyH_ready (rs := [7]) (by kernel_rfl) (by simp) ?_
          refine (AllReadyH.cons (o := ⟨some 30, _, _, _, _, _⟩) rfl (fun K' hK => ?_) AllReadyH.nil)
          have B5 : Hid (Below w4.heap.size w4 (w4.alloc (.cells #[.string r.2.1, .string r.2.2.1, .int .i64 r.2.2.2] 70))) := Lib.hid ((Below.refl _ _).alloc (Nat.le_refl _) _)
          have S5 := Lib.hid (S4.out.below B5.out)
          have T5 := Lib.hid (T4.out.below B5.out T4.out.lt)
          have N5 := Lib.hid (Blk.new w4 70 #[.string r.2.1, .string r.2.2.1, .int .i64 r.2.2.2])
          go_simp
          refine hK.out _ _ trivial (fun h4 => ?_)
          clear hK K'
          try simp only [Act.put, List.setIfInBounds_toArray, List.set_cons_zero, List.set_cons_succ]
          refine wpAnyH_ready (rs := [8]) (by kernel_rfl) (by simp) ?_
          refine (AllReadyH.cons (o := ⟨some 31, _, _, _, _, _⟩) rfl (fun K' hK => ?_) AllReadyH.nil)
          obtain ⟨css, hcs1, hcs2, hcs3⟩ := S5.out.va
          rw [if_pos (by rfl)]
          refine wp_append_at (.tmp 27) (.tmp 30) 24 rfl (g3 + 1) 70 i0 (.agg #[.string ⟨#[]⟩, .string ⟨#[]⟩, .int .i64 0]) 3 40 Tryz.underlying24 HI0.out.1 HI0.out.2.1 HI0.out.2.2.1 HI0.out.2.2.2 rfl (by decide) (.slice A2 q.vars.length c2) q.vars.length css.flatten rfl hcs2 ⟨w4.heap.size, 0, none⟩ 1 1 [.string r.2.1, .string r.2.2.1, .int .i64 r.2.2.2] rfl rfl (news_three N5.out) (one_three _ _ _) (by have := HL.out; unfold maxLen; omega) (by have := HL.out; omega) T5.out.lt ?_
          intro v6 w6 ho hg hv
          have T6 : Hid (Blk w6 g3 28 #[(.slice A1 q.enums.length c1), (.slice A2 q.vars.length c2), (.slice A3 q.procs.length c3), .slice none 0 0]) := Lib.hid ((hg.block g3 T5.out.lt (fun e => absurd (S5.out.va.lt g3 e.symm).1 (Nat.not_succ_le_self _))).trans T5.out)
          have S6 := Lib.hid (S5.out.moreV (x := r.2) hcs1 hcs3 ho hg hv rfl (⟨rfl, HIn.out⟩))
          obtain ⟨A6, n6, c6, rfl⟩ : ∃ A n c, v6 = .slice A n c := by
            obtain ⟨A, c, e⟩ := ps_row_slice ho
            exact ⟨A, _, c, e⟩
          clear ho hg hv hcs1 hcs2 hcs3
          refine hK.out _ _ trivial (fun h9 => ?_)
          clear hK K'
          try simp only [Act.put, List.setIfInBounds_toArray, List.set_cons_zero, List.set_cons_succ]
          refine wpAnyH_take (i := 9) (oi := ⟨some 32, _, _, _, _, _⟩) (v := ?_) rfl (by kernel_rfl) (by kernel_rfl) (by kernel_rfl) (fun _ _ _ h => h) (Or.inl ⟨by rfl, ?_⟩) h9 ?_
          rotate_left
          · intro w hSw
            try dsimp only at hSw
            go_simp
            try with_reducible rfl
          try simp only [Act.put, List.setIfInBounds_toArray, List.set_cons_zero, List.set_cons_succ]
          refine wpAnyH_take (i := 10) (oi := ⟨some 33, _, _, _, _, _⟩) (v := ?_) rfl (by kernel_rfl) (by kernel_rfl) (by kernel_rfl) (fun _ _ _ h => h) (Or.inl ⟨by rfl, ?_⟩) h9 ?_
          rotate_left
          · intro w hSw
            try dsimp only at hSw
            go_simp
            try with_reducible rfl
          try simp only [Act.put, List.setIfInBounds_toArray, List.set_cons_zero, List.set_cons_succ]
          refine wpAnyH_ready (rs := [11]) (by kernel_rfl) (by simp) ?_
          refine (AllReadyH.cons (o := ⟨none, _, _, _, _, _⟩) rfl (fun K' hK => ?_) AllReadyH.nil)
          have t0 := T6.out.cell 1
          have t1 := T6.out.frozen 1
          have t2 := T6.out.lt
          simp at t0
          go_simp
          refine hK.out _ _ trivial (fun h10 => ?_)
          clear hK K'
          try simp only [Act.put, List.setIfInBounds_toArray, List.set_cons_zero, List.set_cons_succ]
          clear t0 t1 t2
          refine wpAnyH_done (by kernel_rfl) ?_ _
          have S7 := Lib.hid (S6.out.set_ 1 (.slice A6 n6 c6))
          have T7 := Lib.hid (T6.out.set_ 1 (.slice A6 n6 c6))
          go_wp2_with fail
          go_end0
          exact ⟨rfl, _, _, _, _, by rw [HRes.out]; exact S7.out, T7.out⟩
        · have B5 : Hid (Below w4.heap.size w4 (w4.alloc (.cells #[.string r.2.1, .string r.2.2.1, .int .i64 r.2.2.2] 70))) := Lib.hid ((Below.refl _ _).alloc (Nat.le_refl _) _)
          have S5 := Lib.hid (S4.out.below B5.out)
          have T5 := Lib.hid (T4.out.below B5.out T4.out.lt)
          have N5 := Lib.hid (Blk.new w4 70 #[.string r.2.1, .string r.2.2.1, .int .i64 r.2.2.2])
          go_simp
          refine hK.out _ _ trivial (fun h3 => ?_)
          clear hK K'
          try simp only [Act.put, List.setIfInBounds_toArray, List.set_cons_zero, List.set_cons_succ]
          refine wpAnyH_ready (rs := [4]) (by kernel_rfl) (by simp) ?_
          refine (AllReadyH.cons (o := ⟨some 27, _, _, _, _, _⟩) rfl (fun K' hK => ?_) AllReadyH.nil)
          have tf : (w4.alloc (.cells #[.string r.2.1, .string r.2.2.1, .int .i64 r.2.2.2] 70)).cell? ⟨g3, 1, none⟩ = some (.slice A2 q.vars.length c2) := T5.out.cell 1
          go_simp
          refine hK.out _ _ trivial (fun h4 => ?_)
          clear hK K'
          try simp only [Act.put, List.setIfInBounds_toArray, List.set_cons_zero, List.set_cons_succ]
          clear tf
          refine wpAnyH_ready (rs := [8]) (by kernel_rfl) (by simp) ?_
          refine (AllReadyH.cons (o := ⟨some 31, _, _, _, _, _⟩) rfl (fun K' hK => ?_) AllReadyH.nil)
          obtain ⟨css, hcs1, hcs2, hcs3⟩ := S5.out.va
          rw [if_pos (by rfl)]
          refine wp_append_at (.tmp 27) (.tmp 30) 24 rfl (g3 + 1) 70 i0 (.agg #[.string ⟨#[]⟩, .string ⟨#[]⟩, .int .i64 0]) 3 40 Tryz.underlying24 HI0.out.1 HI0.out.2.1 HI0.out.2.2.1 HI0.out.2.2.2 rfl (by decide) (.slice A2 q.vars.length c2) q.vars.length css.flatten rfl hcs2 ⟨w4.heap.size, 0, none⟩ 1 1 [.string r.2.1, .string r.2.2.1, .int .i64 r.2.2.2] rfl rfl (news_three N5.out) (one_three _ _ _) (by have := HL.out; unfold maxLen; omega) (by have := HL.out; omega) T5.out.lt ?_
          intro v6 w6 ho hg hv
          have T6 : Hid (Blk w6 g3 28 #[(.slice A1 q.enums.length c1), (.slice A2 q.vars.length c2), (.slice A3 q.procs.length c3), .slice none 0 0]) := Lib.hid ((hg.block g3 T5.out.lt (fun e => absurd (S5.out.va.lt g3 e.symm).1 (Nat.not_succ_le_self _))).trans T5.out)
          have S6 := Lib.hid (S5.out.moreV (x := r.2) hcs1 hcs3 ho hg hv rfl (⟨rfl, HIn.out⟩))
          obtain ⟨A6, n6, c6, rfl⟩ : ∃ A n c, v6 = .slice A n c := by
            obtain ⟨A, c, e⟩ := ps_row_slice ho
            exact ⟨A, _, c, e⟩
          clear ho hg hv hcs1 hcs2 hcs3
          refine hK.out _ _ trivial (fun h9 => ?_)
          clear hK K'
          try simp only [Act.put, List.setIfInBounds_toArray, List.set_cons_zero, List.set_cons_succ]
          refine wpAnyH_take (i := 9) (oi := ⟨some 32, _, _, _, _, _⟩) (v := ?_) rfl (by kernel_rfl) (by kernel_rfl) (by kernel_rfl) (fun _ _ _ h => h) (Or.inl ⟨by rfl, ?_⟩) h9 ?_
          rotate_left
          · intro w hSw
            try dsimp only at hSw
            go_simp
            try with_reducible rfl
          try simp only [Act.put, List.setIfInBounds_toArray, List.set_cons_zero, List.set_cons_succ]
          refine wpAnyH_take (i := 10) (oi := ⟨some 33, _, _, _, _, _⟩) (v := ?_) rfl (by kernel_rfl) (by kernel_rfl) (by kernel_rfl) (fun _ _ _ h => h) (Or.inl ⟨by rfl, ?_⟩) h9 ?_
          rotate_left
          · intro w hSw
            try dsimp only at hSw
            go_simp
            try with_reducible rfl
          try simp only [Act.put, List.setIfInBounds_toArray, List.set_cons_zero, List.set_cons_succ]
          refine wpAnyH_ready (rs := [11]) (by kernel_rfl) (by simp) ?_
          refine (AllReadyH.cons (o := ⟨none, _, _, _, _, _⟩) rfl (fun K' hK => ?_) AllReadyH.nil)
          have t0 := T6.out.cell 1
          have t1 := T6.out.frozen 1
          have t2 := T6.out.lt
          simp at t0
          go_simp
          refine hK.out _ _ trivial (fun h10 => ?_)
          clear hK K'
          try simp only [Act.put, List.setIfInBounds_toArray, List.set_cons_zero, List.set_cons_succ]
          clear t0 t1 t2
          refine wpAnyH_done (by kernel_rfl) ?_ _
          have S7 := Lib.hid (S6.out.set_ 1 (.slice A6 n6 c6))
          have T7 := Lib.hid (T6.out.set_ 1 (.slice A6 n6 c6))
          go_wp2_with fail
          go_end0
          exact ⟨rfl, _, _, _, _, by rw [HRes.out]; exact S7.out, T7.out⟩
  · obtain ⟨r, hr⟩ : ∃ q, q = enumP len (takeF s) := ⟨_, rfl⟩
    have HC : Hid (∀ w, Par B b len M 0 0 (takeF s) w → Calls Tryz.prog 88 #[.pointer (some ⟨b, 0, none⟩)] w (RetEn B b len M 0 r w)) := Lib.hid fun w h => by rw [hr]; exact enum_any h
    have HRes : Hid (declP len s q = (r.1, ⟨q.enums ++ [r.2], q.vars, q.procs, q.main⟩)) := Lib.hid (by rw [HDe.out, hr]; rfl)
    clear hr
    go_enter Tryz.func50, Tryz.ntmps50
    go_upto_region 2 with (go_at_call 87; have HY := HS1.out _ S0.out.bx.par; (with_reducible refine HY.mono ?_); clear HY; rintro e w1 ⟨rfl, hp, hd⟩; have S1 := Lib.hid (S0.out.step hp hd); have T1 := Lib.hid (hd.blk T0.out (Nat.ne_of_gt S0.out.lo.2)); clear hp hd)
    have SD : Hid (PB B b len M w g3 n q (.slice A1 q.enums.length c1) (.slice A2 q.vars.length c2) (.slice A3 q.procs.length c3) (takeF s) w1.drew) := Lib.hid (S1.out.below (Below.refl _ _).drew)
    have TD : Hid (Blk w1.drew g3 28 #[(.slice A1 q.enums.length c1), (.slice A2 q.vars.length c2), (.slice A3 q.procs.length c3), .slice none 0 0]) := Lib.hid T1.out
    obtain ⟨i0, hi0, hz0, hz1, hz2⟩ := info_parts enfo
    have HI0 := Lib.hid (And.intro hi0 (And.intro hz0 (And.intro hz1 hz2)))
    clear hi0 hz0 hz1 hz2
    refine wp_region_held_drew (S := fun _ => True) (by kernel_rfl) trivial (fun k0 => ?_)
    refine wpAnyH_take (i := 0) (oi := ⟨some 9, _, _, _, _, _⟩) (v := ?_) rfl (by kernel_rfl) (by kernel_rfl) (by kernel_rfl) (fun _ _ _ h => h) (Or.inl ⟨by rfl, ?_⟩) k0 ?_
    rotate_left
    · intro w hSw
      try dsimp only at hSw
      go_simp
      try with_reducible rfl
    try simp only [Act.put, List.setIfInBounds_toArray, List.set_cons_zero, List.set_cons_succ]
    refine wpAnyH_take (i := 1) (oi := ⟨some 10, _, _, _, _, _⟩) (v := ?_) rfl (by kernel_rfl) (by kernel_rfl) (by kernel_rfl) (fun _ _ _ h => h) (Or.inl ⟨by rfl, ?_⟩) k0 ?_
    rotate_left
    · intro w hSw
      try dsimp only at hSw
      go_simp
      try with_reducible rfl
    try simp only [Act.put, List.setIfInBounds_toArray, List.set_cons_zero, List.set_cons_succ]
    refine wpAnyH_take (i := 2) (oi := ⟨some 11, _, _, _, _, _⟩) (v := ?_) rfl (by kernel_rfl) (by kernel_rfl) (by kernel_rfl) (fun _ _ _ h => h) (Or.inl ⟨by rfl, ?_⟩) k0 ?_
    rotate_left
    · intro w hSw
      try dsimp only at hSw
      go_simp
      try with_reducible rfl
    try simp only [Act.put, List.setIfInBounds_toArray, List.set_cons_zero, List.set_cons_succ]
    refine wpAnyH_take (i := 3) (oi := ⟨some 12, _, _, _, _, _⟩) (v := ?_) rfl (by kernel_rfl) (by kernel_rfl) (by kernel_rfl) (fun _ _ _ h => h) (Or.inl ⟨by rfl, ?_⟩) k0 ?_
    rotate_left
    · intro w hSw
      try dsimp only at hSw
      go_simp
      try with_reducible rfl
    try simp only [Act.put, List.setIfInBounds_toArray, List.set_cons_zero, List.set_cons_succ]
    refine wpAnyH_take (i := 5) (oi := ⟨some 14, _, _, _, _, _⟩) (v := ?_) rfl (by kernel_rfl) (by kernel_rfl) (by kernel_rfl) (fun _ _ _ h => h) (Or.inl ⟨by rfl, ?_⟩) k0 ?_
    rotate_left
    · intro w hSw
      try dsimp only at hSw
      go_simp
      try with_reducible rfl
    try simp only [Act.put, List.setIfInBounds_toArray, List.set_cons_zero, List.set_cons_succ]
    refine wpAnyH_ready (rs := [4, 6]) (by kernel_rfl) (by simp) ?_
    refine (AllReadyH.cons (o := ⟨some 13, _, _, _, _, _⟩) rfl (fun K' hK => ?_) (AllReadyH.cons (o := ⟨some 15, _, _, _, _, _⟩) rfl (fun K' hK => ?_) AllReadyH.nil))
    · have tf : w1.drew.cell? ⟨g3, 0, none⟩ = some (.slice A1 q.enums.length c1) := TD.out.cell 0
      go_simp
      refine hK.out _ _ trivial (fun h1 => ?_)
      clear hK K'
      try simp only [Act.put, List.setIfInBounds_toArray, List.set_cons_zero, List.set_cons_succ]
      clear tf
      refine wpAnyH_ready (rs := [6]) (by kernel_rfl) (by simp) ?_
      refine (AllReadyH.cons (o := ⟨some 15, _, _, _, _, _⟩) rfl (fun K' hK => ?_) AllReadyH.nil)
      go_simp
      refine (HC.out _ SD.out.bx.par).mono ?_
      rintro e w4 ⟨L, rfl, hp, hd, hr⟩
      obtain ⟨AL, mL, cL, rfl⟩ : ∃ A m c, L = .slice A m c := by
        obtain ⟨A, c, e, -⟩ := hr
        exact ⟨_, _, _, e⟩
      have R4 := Lib.hid hr
      have S4 := Lib.hid (SD.out.step hp hd)
      have T4 := Lib.hid (hd.blk TD.out (Nat.ne_of_gt SD.out.lo.2))
      clear hp hd hr
      go_wp2_with fail
      refine hK.out _ _ trivial (fun h2 => ?_)
      clear hK K'
      try simp only [Act.put, List.setIfInBounds_toArray, List.set_cons_zero, List.set_cons_succ]
      refine wpAnyH_ready (rs := [7]) (by kernel_rfl) (by simp) ?_
      refine (AllReadyH.cons (o := ⟨some 16, _, _, _, _, _⟩) rfl (fun K' hK => ?_) AllReadyH.nil)
      have B5 : Hid (Below w4.heap.size w4 (w4.alloc (.cells #[.string r.2.1, .slice AL mL cL] 67))) := Lib.hid ((Below.refl _ _).alloc (Nat.le_refl _) _)
      have S5 := Lib.hid (S4.out.below B5.out)
      have T5 := Lib.hid (T4.out.below B5.out T4.out.lt)
      have N5 := Lib.hid (Blk.new w4 67 #[.string r.2.1, .slice AL mL cL])
      go_simp
      refine hK.out _ _ trivial (fun h3 => ?_)
      clear hK K'
      try simp only [Act.put, List.setIfInBounds_toArray, List.set_cons_zero, List.set_cons_succ]
      refine wpAnyH_ready (rs := [8]) (by kernel_rfl) (by simp) ?_
      refine (AllReadyH.cons (o := ⟨some 17, _, _, _, _, _⟩) rfl (fun K' hK => ?_) AllReadyH.nil)
      obtain ⟨css, hcs1, hcs2, hcs3⟩ := S5.out.en
      rw [if_pos (by rfl)]
      refine wp_append_at (.tmp 13) (.tmp 16) 23 rfl (g3 + 1) 67 i0 (.agg #[.string ⟨#[]⟩, .slice none 0 0]) 2 40 Tryz.underlying23 HI0.out.1 HI0.out.2.1 HI0.out.2.2.1 HI0.out.2.2.2 rfl (by decide) (.slice A1 q.enums.length c1) q.enums.length css.flatten rfl hcs2 ⟨w4.heap.size, 0, none⟩ 1 1 [.string r.2.1, .slice AL mL cL] rfl rfl (news_two N5.out) (one_two _ _ _ _) (by have := HL.out; unfold maxLen; omega) (by have := HL.out; omega) T5.out.lt ?_
      intro v6 w6 ho hg hv
      have T6 : Hid (Blk w6 g3 28 #[(.slice A1 q.enums.length c1), (.slice A2 q.vars.length c2), (.slice A3 q.procs.length c3), .slice none 0 0]) := Lib.hid ((hg.block g3 T5.out.lt (fun e => absurd (S5.out.en.lt g3 e.symm).1 (Nat.not_succ_le_self _))).trans T5.out)
      have S6 := Lib.hid (S5.out.moreE (x := r.2) hcs1 hcs3 ho hg hv rfl (⟨_, rfl, (R4.out.kept (fun x hx => B5.out.block x hx.2)).wide (fun x hx => ⟨⟨Nat.le_trans TD.out.lt hx.1, Nat.lt_of_lt_of_le hx.2 B5.out.size, fun e => absurd (SD.out.en.lt _ e).2 (Nat.not_lt.2 hx.1)⟩, fun e => by
          rcases e with e | e
          · exact absurd (SD.out.va.lt _ e).2 (Nat.not_lt.2 hx.1)
          · exact absurd (SD.out.pr.lt _ e).2 (Nat.not_lt.2 hx.1)⟩)⟩))
      obtain ⟨A6, n6, c6, rfl⟩ : ∃ A n c, v6 = .slice A n c := by
        obtain ⟨A, c, e⟩ := ps_row_slice ho
        exact ⟨A, _, c, e⟩
      clear ho hg hv hcs1 hcs2 hcs3
      refine hK.out _ _ trivial (fun h9 => ?_)
      clear hK K'
      try simp only [Act.put, List.setIfInBounds_toArray, List.set_cons_zero, List.set_cons_succ]
      refine wpAnyH_take (i := 9) (oi := ⟨some 18, _, _, _, _, _⟩) (v := ?_) rfl (by kernel_rfl) (by kernel_rfl) (by kernel_rfl) (fun _ _ _ h => h) (Or.inl ⟨by rfl, ?_⟩) h9 ?_
      rotate_left
      · intro w hSw
        try dsimp only at hSw
        go_simp
        try with_reducible rfl
      try simp only [Act.put, List.setIfInBounds_toArray, List.set_cons_zero, List.set_cons_succ]
      refine wpAnyH_take (i := 10) (oi := ⟨some 19, _, _, _, _, _⟩) (v := ?_) rfl (by kernel_rfl) (by kernel_rfl) (by kernel_rfl) (fun _ _ _ h => h) (Or.inl ⟨by rfl, ?_⟩) h9 ?_
      rotate_left
      · intro w hSw
        try dsimp only at hSw
        go_simp
        try with_reducible rfl
      try simp only [Act.put, List.setIfInBounds_toArray, List.set_cons_zero, List.set_cons_succ]
      refine wpAnyH_ready (rs := [11]) (by kernel_rfl) (by simp) ?_
      refine (AllReadyH.cons (o := ⟨none, _, _, _, _, _⟩) rfl (fun K' hK => ?_) AllReadyH.nil)
      have t0 := T6.out.cell 0
      have t1 := T6.out.frozen 0
      have t2 := T6.out.lt
      simp at t0
      go_simp
      refine hK.out _ _ trivial (fun h10 => ?_)
      clear hK K'
      try simp only [Act.put, List.setIfInBounds_toArray, List.set_cons_zero, List.set_cons_succ]
      clear t0 t1 t2
      refine wpAnyH_done (by kernel_rfl) ?_ _
      have S7 := Lib.hid (S6.out.set_ 0 (.slice A6 n6 c6))
      have T7 := Lib.hid (T6.out.set_ 0 (.slice A6 n6 c6))
      go_wp2_with fail
      go_end0
      exact ⟨rfl, _, _, _, _, by rw [HRes.out]; exact S7.out, T7.out⟩
    · go_simp
      refine (HC.out _ SD.out.bx.par).mono ?_
      rintro e w4 ⟨L, rfl, hp, hd, hr⟩
      obtain ⟨AL, mL, cL, rfl⟩ : ∃ A m c, L = .slice A m c := by
        obtain ⟨A, c, e, -⟩ := hr
        exact ⟨_, _, _, e⟩
      have R4 := Lib.hid hr
      have S4 := Lib.hid (SD.out.step hp hd)
      have T4 := Lib.hid (hd.blk TD.out (Nat.ne_of_gt SD.out.lo.2))
      clear hp hd hr
      go_wp2_with fail
      refine hK.out _ _ trivial (fun h2 => ?_)
      clear hK K'
      try simp only [Act.put, List.setIfInBounds_toArray, List.set_cons_zero, List.set_cons_succ]
      refine wpAnyH_ready (rs := [4, 7]) (by kernel_rfl) (by simp) ?_
      refine (AllReadyH.cons (o := ⟨some 13, _, _, _, _, _⟩) rfl (fun K' hK => ?_) (AllReadyH.cons (o := ⟨some 16, _, _, _, _, _⟩) rfl (fun K' hK => ?_) AllReadyH.nil))
      · have tf : w4.cell? ⟨g3, 0, none⟩ = some (.slice A1 q.enums.length c1) := T4.out.cell 0
        go_simp
        refine hK.out _ _ trivial (fun h3 => ?_)
        clear hK K'
        try simp only [Act.put, List.setIfInBounds_toArray, List.set_cons_zero, List.set_cons_succ]
        clear tf
        refine wpAnyH_ready (rs := [7]) (by kernel_rfl) (by simp) ?_
        refine (AllReadyH.cons (o := ⟨some 16, _, _, _, _, _⟩) rfl (fun K' hK => ?_) AllReadyH.nil)
        have B5 : Hid (Below w4.heap.size w4 (w4.alloc (.cells #[.string r.2.1, .slice AL mL cL] 67))) := Lib.hid ((Below.refl _ _).alloc (Nat.le_refl _) _)
        have S5 := Lib.hid (S4.out.below B5.out)
        have T5 := Lib.hid (T4.out.below B5.out T4.out.lt)
        have N5 := Lib.hid (Blk.new w4 67 #[.string r.2.1, .slice AL mL cL])
        go_simp
        refine hK.out _ _ trivial (fun h4 => ?_)
        clear hK K'
        try simp only [Act.put, List.setIfInBounds_toArray, List.set_cons_zero, List.set_cons_succ]
        refine wpAnyH_ready (rs := [8]) (by kernel_rfl) (by simp) ?_
        refine (AllReadyH.cons (o := ⟨some 17, _, _, _, _, _⟩) rfl (fun K' hK => ?_) AllReadyH.nil)
        obtain ⟨css, hcs1, hcs2, hcs3⟩ := S5.out.en
        rw [if_pos (by rfl)]
        refine wp_append_at (.tmp 13) (.tmp 16) 23 rfl (g3 + 1) 67 i0 (.agg #[.string ⟨#[]⟩, .slice none 0 0]) 2 40 Tryz.underlying23 HI0.out.1 HI0.out.2.1 HI0.out.2.2.1 HI0.out.2.2.2 rfl (by decide) (.slice A1 q.enums.length c1) q.enums.length css.flatten rfl hcs2 ⟨w4.heap.size, 0, none⟩ 1 1 [.string r.2.1, .slice AL mL cL] rfl rfl (news_two N5.out) (one_two _ _ _ _) (by have := HL.out; unfold maxLen; omega) (by have := HL.out; omega) T5.out.lt ?_
        intro v6 w6 ho hg hv
        have T6 : Hid (Blk w6 g3 28 #[(.slice A1 q.enums.length c1), (.slice A2 q.vars.length c2), (.slice A3 q.procs.length c3), .slice none 0 0]) := Lib.hid ((hg.block g3 T5.out.lt (fun e => absurd (S5.out.en.lt g3 e.symm).1 (Nat.not_succ_le_self _))).trans T5.out)
        have S6 := Lib.hid (S5.out.moreE (x := r.2) hcs1 hcs3 ho hg hv rfl (⟨_, rfl, (R4.out.kept (fun x hx => B5.out.block x hx.2)).wide (fun x hx => ⟨⟨Nat.le_trans TD.out.lt hx.1, Nat.lt_of_lt_of_le hx.2 B5.out.size, fun e => absurd (SD.out.en.lt _ e).2 (Nat.not_lt.2 hx.1)⟩, fun e => by
            rcases e with e | e
            · exact absurd (SD.out.va.lt _ e).2 (Nat.not_lt.2 hx.1)
            · exact absurd (SD.out.pr.lt _ e).2 (Nat.not_lt.2 hx.1)⟩)⟩))
        obtain ⟨A6, n6, c6, rfl⟩ : ∃ A n c, v6 = .slice A n c := by
          obtain ⟨A, c, e⟩ := ps_row_slice ho
          exact ⟨A, _, c, e⟩
        clear ho hg hv hcs1 hcs2 hcs3
        refine hK.out _ _ trivial (fun h9 => ?_)
        clear hK K'
        try simp only [Act.put, List.setIfInBounds_toArray, List.set_cons_zero, List.set_cons_succ]
        refine wpAnyH_take (i := 9) (oi := ⟨some 18, _, _, _, _, _⟩) (v := ?_) rfl (by kernel_rfl) (by kernel_rfl) (by kernel_rfl) (fun _ _ _ h => h) (Or.inl ⟨by rfl, ?_⟩) h9 ?_
        rotate_left
        · intro w hSw
          try dsimp only at hSw
          go_simp
          try with_reducible rfl
        try simp only [Act.put, List.setIfInBounds_toArray, List.set_cons_zero, List.set_cons_succ]
        refine wpAnyH_take (i := 10) (oi := ⟨some 19, _, _, _, _, _⟩) (v := ?_) rfl (by kernel_rfl) (by kernel_rfl) (by kernel_rfl) (fun _ _ _ h => h) (Or.inl ⟨by rfl, ?_⟩) h9 ?_
        rotate_left
        · intro w hSw
          try dsimp only at hSw
          go_simp
          try with_reducible rfl
        try simp only [Act.put, List.setIfInBounds_toArray, List.set_cons_zero, List.set_cons_succ]
        refine wpAnyH_ready (rs := [11]) (by kernel_rfl) (by simp) ?_
        refine (AllReadyH.cons (o := ⟨none, _, _, _, _, _⟩) rfl (fun K' hK => ?_) AllReadyH.nil)
        have t0 := T6.out.cell 0
        have t1 := T6.out.frozen 0
        have t2 := T6.out.lt
        simp at t0
        go_simp
        refine hK.out _ _ trivial (fun h10 => ?_)
        clear hK K'
        try simp only [Act.put, List.setIfInBounds_toArray, List.set_cons_zero, List.set_cons_succ]
        clear t0 t1 t2
        refine wpAnyH_done (by kernel_rfl) ?_ _
        have S7 := Lib.hid (S6.out.set_ 0 (.slice A6 n6 c6))
        have T7 := Lib.hid (T6.out.set_ 0 (.slice A6 n6 c6))
        go_wp2_with fail
        go_end0
        exact ⟨rfl, _, _, _, _, by rw [HRes.out]; exact S7.out, T7.out⟩
      · have B5 : Hid (Below w4.heap.size w4 (w4.alloc (.cells #[.string r.2.1, .slice AL mL cL] 67))) := Lib.hid ((Below.refl _ _).alloc (Nat.le_refl _) _)
        have S5 := Lib.hid (S4.out.below B5.out)
        have T5 := Lib.hid (T4.out.below B5.out T4.out.lt)
        have N5 := Lib.hid (Blk.new w4 67 #[.string r.2.1, .slice AL mL cL])
        go_simp
        refine hK.out _ _ trivial (fun h3 => ?_)
        clear hK K'
        try simp only [Act.put, List.setIfInBounds_toArray, List.set_cons_zero, List.set_cons_succ]
        refine wpAnyH_ready (rs := [4]) (by kernel_rfl) (by simp) ?_
        refine (AllReadyH.cons (o := ⟨some 13, _, _, _, _, _⟩) rfl (fun K' hK => ?_) AllReadyH.nil)
        have tf : (w4.alloc (.cells #[.string r.2.1, .slice AL mL cL] 67)).cell? ⟨g3, 0, none⟩ = some (.slice A1 q.enums.length c1) := T5.out.cell 0
        go_simp
        refine hK.out _ _ trivial (fun h4 => ?_)
        clear hK K'
        try simp only [Act.put, List.setIfInBounds_toArray, List.set_cons_zero, List.set_cons_succ]
        clear tf
        refine wpAnyH_ready (rs := [8]) (by kernel_rfl) (by simp) ?_
        refine (AllReadyH.cons (o := ⟨some 17, _, _, _, _, _⟩) rfl (fun K' hK => ?_) AllReadyH.nil)
        obtain ⟨css, hcs1, hcs2, hcs3⟩ := S5.out.en
        rw [if_pos (by rfl)]
        refine wp_append_at (.tmp 13) (.tmp 16) 23 rfl (g3 + 1) 67 i0 (.agg #[.string ⟨#[]⟩, .slice none 0 0]) 2 40 Tryz.underlying23 HI0.out.1 HI0.out.2.1 HI0.out.2.2.1 HI0.out.2.2.2 rfl (by decide) (.slice A1 q.enums.length c1) q.enums.length css.flatten rfl hcs2 ⟨w4.heap.size, 0, none⟩ 1 1 [.string r.2.1, .slice AL mL cL] rfl rfl (news_two N5.out) (one_two _ _ _ _) (by have := HL.out; unfold maxLen; omega) (by have := HL.out; omega) T5.out.lt ?_
        intro v6 w6 ho hg hv
        have T6 : Hid (Blk w6 g3 28 #[(.slice A1 q.enums.length c1), (.slice A2 q.vars.length c2), (.slice A3 q.procs.length c3), .slice none 0 0]) := Lib.hid ((hg.block g3 T5.out.lt (fun e => absurd (S5.out.en.lt g3 e.symm).1 (Nat.not_succ_le_self _))).trans T5.out)
        have S6 := Lib.hid (S5.out.moreE (x := r.2) hcs1 hcs3 ho hg hv rfl (⟨_, rfl, (R4.out.kept (fun x hx => B5.out.block x hx.2)).wide (fun x hx => ⟨⟨Nat.le_trans TD.out.lt hx.1, Nat.lt_of_lt_of_le hx.2 B5.out.size, fun e => absurd (SD.out.en.lt _ e).2 (Nat.not_lt.2 hx.1)⟩, fun e => by
            rcases e with e | e
            · exact absurd (SD.out.va.lt _ e).2 (Nat.not_lt.2 hx.1)
            · exact absurd (SD.out.pr.lt _ e).2 (Nat.not_lt.2 hx.1)⟩)⟩))
        obtain ⟨A6, n6, c6, rfl⟩ : ∃ A n c, v6 = .slice A n c := by
          obtain ⟨A, c, e⟩ := ps_row_slice ho
          exact ⟨A, _, c, e⟩
        clear ho hg hv hcs1 hcs2 hcs3
        refine hK.out _ _ trivial (fun h9 => ?_)
        clear hK K'
        try simp only [Act.put, List.setIfInBounds_toArray, List.set_cons_zero, List.set_cons_succ]
        refine wpAnyH_take (i := 9) (oi := ⟨some 18, _, _, _, _, _⟩) (v := ?_) rfl (by kernel_rfl) (by kernel_rfl) (by kernel_rfl) (fun _ _ _ h => h) (Or.inl ⟨by rfl, ?_⟩) h9 ?_
        rotate_left
        · intro w hSw
          try dsimp only at hSw
          go_simp
          try with_reducible rfl
        try simp only [Act.put, List.setIfInBounds_toArray, List.set_cons_zero, List.set_cons_succ]
        refine wpAnyH_take (i := 10) (oi := ⟨some 19, _, _, _, _, _⟩) (v := ?_) rfl (by kernel_rfl) (by kernel_rfl) (by kernel_rfl) (fun _ _ _ h => h) (Or.inl ⟨by rfl, ?_⟩) h9 ?_
        rotate_left
        · intro w hSw
          try dsimp only at hSw
          go_simp
          try with_reducible rfl
        try simp only [Act.put, List.setIfInBounds_toArray, List.set_cons_zero, List.set_cons_succ]
        refine wpAnyH_ready (rs := [11]) (by kernel_rfl) (by simp) ?_
        refine (AllReadyH.cons (o := ⟨none, _, _, _, _, _⟩) rfl (fun K' hK => ?_) AllReadyH.nil)
        have t0 := T6.out.cell 0
        have t1 := T6.out.frozen 0
        have t2 := T6.out.lt
        simp at t0
        go_simp
        refine hK.out _ _ trivial (fun h10 => ?_)
        clear hK K'
        try simp only [Act.put, List.setIfInBounds_toArray, List.set_cons_zero, List.set_cons_succ]
        clear t0 t1 t2
        refine wpAnyH_done (by kernel_rfl) ?_ _
        have S7 := Lib.hid (S6.out.set_ 0 (.slice A6 n6 c6))
        have T7 := Lib.hid (T6.out.set_ 0 (.slice A6 n6 c6))
        go_wp2_with fail
        go_end0
        exact ⟨rfl, _, _, _, _, by rw [HRes.out]; exact S7.out, T7.out⟩
end
end Go.Proofs.YteaongdlbleehaaGreatDoor

/- The parse layer: a program. -/
namespace Go.Proofs.YteaongdlbleehaaGreatDoor
open Go.RowKit
section
variable {B b len k n : Nat} {M : Value} {s : PS} {w : World}
theorem more_len (f : Nat) : ∀ (s : PS) (l : List ByteArray), (moreN len f s l).1.ts.length ≤ s.ts.length := by
  induction f with
  | zero => intro s l; exact Nat.le_refl _
  | succ f ih =>
    intro s l
    simp only [moreN]
    split
    · exact Nat.le_trans (ih _ _) (Nat.le_trans (name_len _) (takeF_le _))
    · exact Nat.le_refl _
theorem enumP_len (s : PS) : (enumP len s).1.ts.length ≤ s.ts.length := by
  unfold enumP
  exact Nat.le_trans (exp_len _ _) (Nat.le_trans (more_len _ _ _) (Nat.le_trans (name_len _) (Nat.le_trans (exp_len _ _) (name_len _))))
theorem typeP_len (s : PS) : (typeP len s).1.ts.length ≤ s.ts.length := by
  unfold typeP; split
  · exact takeF_le _
  · exact name_len _
theorem sizeP_len (s : PS) : (sizeP len s).1.ts.length ≤ s.ts.length := by
  unfold sizeP; split
  · exact takeF_le _
  · exact fail_len _ _
theorem varP_len (s : PS) : (varP len s).1.ts.length ≤ s.ts.length := by
  unfold varP
  simp only
  split
  · exact Nat.le_trans (exp_len _ _) (Nat.le_trans (exp_len _ _) (Nat.le_trans (sizeP_len _) (Nat.le_trans (takeF_le _) (Nat.le_trans (typeP_len _) (Nat.le_trans (exp_len _ _) (name_len _))))))
  · exact Nat.le_trans (exp_len _ _) (Nat.le_trans (typeP_len _) (Nat.le_trans (exp_len _ _) (name_len _)))
theorem procP_len (s : PS) : (procP len s).1.ts.length ≤ s.ts.length := by
  unfold procP blkE
  exact Nat.le_trans (blk_len 18 0 _) (name_len _)
theorem is_pos {t : Bs} (ht : t ≠ []) {s : PS} (h : isF len t s = true) : 1 ≤ s.ts.length := by
  unfold isF at h
  exact nxt_text_pos (len := len) (by intro e; rw [e] at h; exact ht (by simpa using h))
/-- What is declared takes a token, or is nothing. -/
theorem decl_dec (s : PS) (q : Pg) (h : s.no = 0) : msr (declP len s q).1 + 1 ≤ msr s := by
  have hT : ∀ r : PS, 1 ≤ s.ts.length → r.ts.length ≤ (takeF s).ts.length → msr r + 1 ≤ msr s := fun r h1 hr => by
    rw [take_len] at hr
    unfold msr
    rw [if_pos h]
    split <;> omega
  unfold declP
  split
  · rename_i hi; exact hT _ (is_pos (by decide) hi) (enumP_len _)
  · split
    · rename_i hi; exact hT _ (is_pos (by decide) hi) (varP_len _)
    · split
      · rename_i hi; exact hT _ (is_pos (by decide) hi) (procP_len _)
      · have e : (failF len 130 s) = ⟨[], (nxt len s).at_, 130⟩ := by unfold failF; rw [if_pos h]
        rw [e]
        unfold msr
        rw [if_pos h]
        simp
theorem decl_rows (s : PS) (q : Pg) : (declP len s q).2.enums.length ≤ q.enums.length + 1 ∧ (declP len s q).2.vars.length ≤ q.vars.length + 1 ∧ (declP len s q).2.procs.length ≤ q.procs.length + 1 := by
  unfold declP
  split
  · simp
  · split
    · simp
    · split
      · simp
      · simp
theorem decls_stop (g : Nat) {s : PS} (q : Pg) (h : ¬ (s.no = 0 ∧ isF len tMain s = false)) : declsP len g s q = (s, q) := by
  cases g with
  | zero => rfl
  | succ g => simp only [declsP]; rw [if_neg h]
theorem decls_more (g : Nat) {s : PS} (q : Pg) (h : s.no = 0 ∧ isF len tMain s = false) : declsP len (g + 1) s q = declsP len g (declP len s q).1 (declP len s q).2 := by
  simp only [declsP]; rw [if_pos h]
theorem own_ee {X : Nat → Prop} {T : TypeId} {base : Nat} {w : World} {v : Value} {l : List (ByteArray × List ByteArray)} (h : OwnL (kX kEe X) T 2 base w v l) (hl : l.length * 40 ≤ 140737488355328) : EnR (fun q => base ≤ q ∧ q < w.heap.size) w l v := by
  obtain ⟨A, cap, h1, h2, h3⟩ := h.row
  refine ⟨A, cap, h1, h2, hl, fun i x hx => ?_⟩
  obtain ⟨b, cs, e1, e2, e3, e4, L, rfl, e5⟩ := h3 i x hx
  exact ⟨b, 0, L, e1, e2, by rw [Nat.zero_add]; exact ⟨e4 0 (by omega), e4 1 (by omega)⟩, e5.wide (fun b q => q.1)⟩
theorem own_vv {X : Nat → Prop} {T : TypeId} {base : Nat} {w : World} {v : Value} {l : List (ByteArray × ByteArray × Int)} (h : OwnL (kX kVa X) T 3 base w v l) (hl : l.length * 40 ≤ 140737488355328) : VaR (fun q => base ≤ q ∧ q < w.heap.size) w l v := by
  obtain ⟨A, cap, h1, h2, h3⟩ := h.row
  refine ⟨A, cap, h1, h2, hl, fun i x hx => ?_⟩
  obtain ⟨b, cs, e1, e2, e3, e4, rfl, e5⟩ := h3 i x hx
  exact ⟨b, 0, e1, e2, by rw [Nat.zero_add]; exact ⟨e4 0 (by omega), e4 1 (by omega), e4 2 (by omega)⟩, e5⟩
theorem own_pp {X : Nat → Prop} {T : TypeId} {base : Nat} {w : World} {v : Value} {l : List (ByteArray × List St)} (h : OwnL (kX (kPr n) X) T 2 base w v l) (hl : l.length * 40 ≤ 140737488355328) : PrR (fun q => base ≤ q ∧ q < w.heap.size) n w l v := by
  obtain ⟨A, cap, h1, h2, h3⟩ := h.row
  refine ⟨A, cap, h1, h2, hl, fun i x hx => ?_⟩
  obtain ⟨b, cs, e1, e2, e3, e4, L, rfl, e5⟩ := h3 i x hx
  exact ⟨b, 0, L, e1, e2, by rw [Nat.zero_add]; exact ⟨e4 0 (by omega), e4 1 (by omega)⟩, e5.wide (fun b q => q.1)⟩
/-- What program tells. -/
def RetPr (B b len : Nat) (M : Value) (r : PS × Pg) (w : World) (e : Ending) (w' : World) : Prop :=
  ∃ n vE vV vP vM, e = .returned (pgV vE vV vP vM) ∧ Par B b len M 0 0 r.1 w' ∧ Pd b w w' ∧ PgR (fun q => w.heap.size ≤ q ∧ q < w'.heap.size) n w' r.2 vE vV vP vM
/-- What stands at each round of program. -/
def PgI (B b len : Nat) (M : Value) (w : World) (g3 : Nat) (R : PS × Pg) (gk : Nat) (wr : World) : Prop :=
  ∃ s q n vE vV vP g, msr s ≤ gk ∧ msr s + 1 ≤ g ∧ (q.enums.length + msr s ≤ 4097 ∧ q.vars.length + msr s ≤ 4097 ∧ q.procs.length + msr s ≤ 4097) ∧ PB B b len M w g3 n q vE vV vP s wr ∧ Blk wr g3 28 #[vE, vV, vP, .slice none 0 0] ∧ declsP len g s q = R
set_option maxHeartbeats 6400000 in
set_option maxRecDepth 100000 in
theorem program_any (h : Par B b len M 0 0 s w) : Calls Tryz.prog 21 #[.pointer (some ⟨b, 0, none⟩)] w (RetPr B b len M (progP len s) w) := by
  obtain ⟨R, hRd⟩ : ∃ q, q = declsP len (s.ts.length + 2) s pg0 := ⟨_, rfl⟩
  have HRd := Lib.hid hRd
  have HRes : Hid (progP len s = ((blkE len (expF len tMain R.1)).1, ⟨R.2.enums, R.2.vars, R.2.procs, (blkE len (expF len tMain R.1)).2⟩)) := Lib.hid (by rw [hRd]; rfl)
  obtain ⟨W0, hW0⟩ : ∃ W0, W0 = w.alloc (.cells #[.slice none 0 0, .slice none 0 0, .slice none 0 0, .slice none 0 0] 28) := ⟨_, rfl⟩
  have S0 : Hid (BX B b len M 0 w 28 #[.slice none 0 0, .slice none 0 0, .slice none 0 0, .slice none 0 0] s W0) := Lib.hid (by rw [hW0]; exact BX.new h _ _)
  obtain ⟨W1, hW1⟩ : ∃ q, q = W0.alloc (.cells #[.slice none 0 0, .slice none 0 0, .slice none 0 0, .slice none 0 0] 28) := ⟨_, rfl⟩
  have E1 : Hid (Below W0.heap.size W0 W1) := Lib.hid (by rw [hW1]; exact (Below.refl _ _).alloc (Nat.le_refl _) _)
  have HW1 : Hid (W1 = (w.alloc (.cells #[.slice none 0 0, .slice none 0 0, .slice none 0 0, .slice none 0 0] 28)).alloc (.cells #[.slice none 0 0, .slice none 0 0, .slice none 0 0, .slice none 0 0] 28)) := Lib.hid (by rw [hW1, hW0])
  obtain ⟨g3, hg3⟩ : ∃ q, q = w.heap.size + 1 := ⟨_, rfl⟩
  have hs : W0.heap.size = g3 := by rw [hW0, World.size_alloc, hg3]
  have T1 : Hid (Blk W1 g3 28 #[.slice none 0 0, .slice none 0 0, .slice none 0 0, .slice none 0 0]) := Lib.hid (by rw [hW1, ← hs]; exact Blk.new W0 _ _)
  have HG3 := Lib.hid hg3.symm
  have HST : Hid (PgI B b len M w g3 R (msr s) W1) := Lib.hid ⟨s, pg0, 0, .slice none 0 0, .slice none 0 0, .slice none 0 0, s.ts.length + 2, Nat.le_refl _, by unfold msr; split <;> omega, by obtain ⟨_, _, _, _, q, _⟩ := h.mem; simp only [pg0, List.length_nil]; unfold msr; split <;> omega, ⟨S0.out.below E1.out, ⟨by omega, by have := h.lt; omega⟩, OwnL.nil _ _, OwnL.nil _ _, OwnL.nil _ _, (fun g e => by cases e), (fun g e => by cases e)⟩, T1.out, hRd.symm⟩
  clear hRd hW0 hW1 h hs hg3 S0 E1 T1
  go_enter Tryz.func21, Tryz.ntmps21
  go_upto_region 1 with fail
  go_wp2_with fail
  rw [← HW1.out]
  try rw [HG3.out]
  go_loopg [9] (msr s) (fun gk _ wr => PgI B b len M w g3 R gk wr)
  case atStart => exact HST.out
  case round =>
    obtain ⟨s1, q, n, vE, vV, vP, g, hgk, hg1, hln, hs, ht, hrw⟩ := hrel
    have HGk := Lib.hid hgk
    have HG1 := Lib.hid hg1
    have HLn := Lib.hid hln
    have S5 := Lib.hid hs
    have T5 := Lib.hid ht
    have HRw := Lib.hid hrw
    clear hgk hg1 hln hs ht hrw HST
    obtain ⟨A5, cap5, hB5, -⟩ := S5.out.bx.par.mem
    have c3 := hB5.cell 3
    simp at c3
    clear hB5
    have HIs : Hid (∀ w, Par B b len M 0 0 s1 w → Calls Tryz.prog 49 #[.pointer (some ⟨b, 0, none⟩), .string ⟨#[109, 97, 105, 110]⟩] w (fun e w' => e = .returned (.bool (isF len tMain s1)) ∧ Below w.heap.size w w')) := Lib.hid fun w h => is_any tMain h
    by_cases hno : s1.no = 0
    · have g0 : ((s1.no : Int) == 0) = true := by rw [hno]; rfl
      have HNo1 := Lib.hid hno
      obtain ⟨bj, hbj⟩ : ∃ q, q = isF len tMain s1 := ⟨_, rfl⟩
      rw [← hbj] at HIs
      have HBj := Lib.hid hbj.symm
      clear hbj hno
      cases bj
      · obtain ⟨g, rfl⟩ : ∃ q, g = q + 1 := ⟨g - 1, by have := HG1.out; omega⟩
        obtain ⟨r, hr⟩ : ∃ r, r = declP len s1 q := ⟨_, rfl⟩
        have HMs : Hid (msr r.1 + 1 ≤ msr s1) := Lib.hid (by rw [hr]; exact decl_dec _ _ HNo1.out)
        have HRo : Hid (r.2.enums.length ≤ q.enums.length + 1 ∧ r.2.vars.length ≤ q.vars.length + 1 ∧ r.2.procs.length ≤ q.procs.length + 1) := Lib.hid (by rw [hr]; exact decl_rows _ _)
        have HRw2 : Hid (declsP len g r.1 r.2 = R) := Lib.hid (by rw [← HRw.out, hr]; exact (decls_more g q ⟨HNo1.out, HBj.out⟩).symm)
        have HDc : Hid (∀ W, PB B b len M w g3 n q vE vV vP s1 W → Blk W g3 28 #[vE, vV, vP, .slice none 0 0] → Calls Tryz.prog 50 #[.pointer (some ⟨b, 0, none⟩), .pointer (some ⟨g3, 0, none⟩)] W (RetD B b len M w g3 r)) := Lib.hid fun W h hT => by
          rw [hr]
          exact declare_any h hT (by have := HLn.out; exact ⟨by omega, by omega, by omega⟩)
        clear hr
        go_upto_region 3 with (go_at_call 49; have HY := HIs.out _ S5.out.bx.par; (with_reducible refine HY.mono ?_); clear HY; rintro e w6 ⟨rfl, hq⟩; have S6 := Lib.hid (S5.out.below hq); have T6 := Lib.hid (T5.out.below hq T5.out.lt); clear hq)
        clear c3
        go_wp2_with (go_at_call 50; have HY := HDc.out _ S6.out T6.out; (with_reducible refine HY.mono ?_); clear HY; rintro e w7 ⟨rfl, n7, vE7, vV7, vP7, h7, t7⟩; have S7 := Lib.hid h7; have T7 := Lib.hid t7; clear h7 t7)
        go_roundg (msr r.1)
        case rel => exact ⟨r.1, r.2, n7, vE7, vV7, vP7, g, Nat.le_refl _, by have := HMs.out; have := HG1.out; omega, by have := HMs.out; have := HLn.out; have := HRo.out; exact ⟨by omega, by omega, by omega⟩, S7.out, T7.out, HRw2.out⟩
        case measure => have := HMs.out; have := HGk.out; omega
      · skip
        have HRr : Hid ((s1, q) = R) := Lib.hid (by rw [← HRw.out]; exact (decls_stop _ _ (fun h => by have := h.2; rw [HBj.out] at this; cases this)).symm)
        obtain ⟨p1, hp1⟩ : ∃ q, q = expF len tMain s1 := ⟨_, rfl⟩
        have HX7 : Hid (∀ w, Par B b len M 0 0 s1 w → Calls Tryz.prog 51 #[.pointer (some ⟨b, 0, none⟩), .string ⟨#[109, 97, 105, 110]⟩] w (RetP B b len M 0 0 (.tuple #[]) p1 w)) := Lib.hid fun w h => by rw [hp1]; exact expect_any tMain h
        obtain ⟨r, hr⟩ : ∃ q, q = blkE len p1 := ⟨_, rfl⟩
        have HBk : Hid (∀ w, Par B b len M 0 0 p1 w → Calls Tryz.prog 52 #[.pointer (some ⟨b, 0, none⟩)] w (RetB B b len M 0 r w)) := Lib.hid fun w h => by
          rw [hr]
          exact block_any 18 0 rfl _ _ h ⟨by omega, fun _ => by omega⟩
        have HRes2 : Hid (progP len s = (r.1, ⟨q.enums, q.vars, q.procs, r.2⟩)) := Lib.hid (by rw [HRes.out, ← HRr.out, hr, hp1])
        clear hp1 hr
        go_upto_region 4 with (go_at_call 49; have HY := HIs.out _ S5.out.bx.par; (with_reducible refine HY.mono ?_); clear HY; rintro e w6 ⟨rfl, hq⟩; have S6 := Lib.hid (S5.out.below hq); have T6 := Lib.hid (T5.out.below hq T5.out.lt); clear hq)
        go_upto_region 5 with (go_at_call 51; have HY := HX7.out _ S6.out.bx.par; (with_reducible refine HY.mono ?_); clear HY; rintro e w7 ⟨rfl, hp, hd⟩; have S7 := Lib.hid (S6.out.step hp hd); have T7 := Lib.hid (hd.blk T6.out (Nat.ne_of_gt S6.out.lo.2)); clear hp hd)
        obtain ⟨A1, c1, rfl⟩ : ∃ A c, vE = .slice A q.enums.length c := by
          obtain ⟨A, c, e, -⟩ := S7.out.en.row
          exact ⟨_, _, e⟩
        obtain ⟨A2, c2, rfl⟩ : ∃ A c, vV = .slice A q.vars.length c := by
          obtain ⟨A, c, e, -⟩ := S7.out.va.row
          exact ⟨_, _, e⟩
        obtain ⟨A3, c3, rfl⟩ : ∃ A c, vP = .slice A q.procs.length c := by
          obtain ⟨A, c, e, -⟩ := S7.out.pr.row
          exact ⟨_, _, e⟩
        go_upto_region 6 with (go_at_call 52; have HY := HBk.out _ S7.out.bx.par; (with_reducible refine HY.mono ?_); clear HY; rintro e w8 ⟨nf, AL, mL, cL, rfl, hp, hd, hr8⟩; have S8 := Lib.hid (S7.out.step hp hd); have T8 := Lib.hid (hd.blk T7.out (Nat.ne_of_gt S7.out.lo.2)); have R8 := Lib.hid (hr8.wide (P' := fun q => g3 + 1 ≤ q ∧ q < w8.heap.size) (fun q hq => ⟨Nat.le_trans T7.out.lt hq.1, hq.2⟩)); have t0 := T8.out.cell 0; have t1 := T8.out.cell 1; have t2 := T8.out.cell 2; have t3 := T8.out.cell 3; have tf0 := T8.out.frozen 0; have tf1 := T8.out.frozen 1; have tf2 := T8.out.frozen 2; have tf3 := T8.out.frozen 3; have tl := T8.out.lt; simp at t0 t1 t2 t3; clear hp hd hr8)
        have PG8 : Hid (PgR (fun q => g3 + 1 ≤ q ∧ q < w8.heap.size) (n + nf) w8 ⟨q.enums, q.vars, q.procs, r.2⟩ (.slice A1 q.enums.length c1) (.slice A2 q.vars.length c2) (.slice A3 q.procs.length c3) (.slice AL mL cL)) := Lib.hid ⟨own_ee S8.out.en (by have := HLn.out; show q.enums.length * 40 ≤ 140737488355328; omega), own_vv S8.out.va (by have := HLn.out; show q.vars.length * 40 ≤ 140737488355328; omega), (own_pp S8.out.pr (by have := HLn.out; show q.procs.length * 40 ≤ 140737488355328; omega)).le (Nat.le_add_right n nf), R8.out.le (Nat.le_add_left nf n)⟩
        obtain ⟨w9, hw9⟩ : ∃ q, q = w8.setCell ⟨g3, 3, none⟩ (.slice AL mL cL) := ⟨_, rfl⟩
        have S9 : Hid (BX B b len M 0 w 28 #[.slice none 0 0, .slice none 0 0, .slice none 0 0, .slice none 0 0] r.1 w9) := Lib.hid (by rw [hw9]; exact S8.out.bx.far (p := ⟨g3, 3, none⟩) S8.out.lo.1 _)
        have T9 : Hid (Blk w9 g3 28 #[.slice A1 q.enums.length c1, .slice A2 q.vars.length c2, .slice A3 q.procs.length c3, .slice AL mL cL]) := Lib.hid (by rw [hw9]; exact T8.out.set_ 3 _)
        have PG9 : Hid (PgR (fun q => g3 + 1 ≤ q ∧ q < w9.heap.size) (n + nf) w9 ⟨q.enums, q.vars, q.procs, r.2⟩ (.slice A1 q.enums.length c1) (.slice A2 q.vars.length c2) (.slice A3 q.procs.length c3) (.slice AL mL cL)) := Lib.hid (by
          rw [hw9]
          exact (PG8.out.kept (fun q hq => Below.heap_setCell _ _ _ _ (by have := hq.1; show q ≠ g3; omega))).wide (fun q hq => ⟨hq.1, by simpa [World.setCell] using hq.2⟩))
        rw [← hw9]
        clear hw9 t0 tf0 t1 tf1 t2 tf2 t3 tf3 tl
        have t0 := T9.out.cell 0
        have t1 := T9.out.cell 1
        have t2 := T9.out.cell 2
        have t3 := T9.out.cell 3
        simp at t0 t1 t2 t3
        have r0 := S9.out.r.cell 0
        have r1 := S9.out.r.cell 1
        have r2 := S9.out.r.cell 2
        have r3 := S9.out.r.cell 3
        have rf0 := S9.out.r.frozen 0
        have rf1 := S9.out.r.frozen 1
        have rf2 := S9.out.r.frozen 2
        have rf3 := S9.out.r.frozen 3
        have rl := S9.out.r.lt
        simp at r0 r1 r2 r3
        go_wp2
        have F := (((S9.out.set_ 0 (.slice A1 q.enums.length c1)).set_ 1 (.slice A2 q.vars.length c2)).set_ 2 (.slice A3 q.procs.length c3)).set_ 3 (.slice AL mL cL)
        have q0 := F.r.cell 0
        have q1 := F.r.cell 1
        have q2 := F.r.cell 2
        have q3 := F.r.cell 3
        simp at q0 q1 q2 q3
        rw [HRes2.out]
        refine bodyPost_ret (v := pgV (.slice A1 q.enums.length c1) (.slice A2 q.vars.length c2) (.slice A3 q.procs.length c3) (.slice AL mL cL)) (by simp [results, Tryz.results21, go_sem, q0, q1, q2, q3]) rfl ⟨n + nf, _, _, _, _, rfl, F.par, F.pd, ?_⟩
        have K4 := four_kept (w := w9) (g := w.heap.size) (.slice A1 q.enums.length c1) (.slice A2 q.vars.length c2) (.slice A3 q.procs.length c3) (.slice AL mL cL) 0 1 2 3
        exact (PG9.out.kept (fun x hx => K4.1 x (by have := hx.1; have := S8.out.lo.1; omega))).wide (fun x hx => ⟨by have := hx.1; have := S8.out.lo.1; omega, by rw [K4.2]; exact hx.2⟩)
    · have g0 : ((s1.no : Int) == 0) = false := by simp; exact hno
      have HNo1 := Lib.hid hno
      clear hno
      have S6 := S5
      have T6 := T5
      have HRr : Hid ((s1, q) = R) := Lib.hid (by rw [← HRw.out]; exact (decls_stop _ _ (fun h => HNo1.out h.1)).symm)
      obtain ⟨p1, hp1⟩ : ∃ q, q = expF len tMain s1 := ⟨_, rfl⟩
      have HX7 : Hid (∀ w, Par B b len M 0 0 s1 w → Calls Tryz.prog 51 #[.pointer (some ⟨b, 0, none⟩), .string ⟨#[109, 97, 105, 110]⟩] w (RetP B b len M 0 0 (.tuple #[]) p1 w)) := Lib.hid fun w h => by rw [hp1]; exact expect_any tMain h
      obtain ⟨r, hr⟩ : ∃ q, q = blkE len p1 := ⟨_, rfl⟩
      have HBk : Hid (∀ w, Par B b len M 0 0 p1 w → Calls Tryz.prog 52 #[.pointer (some ⟨b, 0, none⟩)] w (RetB B b len M 0 r w)) := Lib.hid fun w h => by
        rw [hr]
        exact block_any 18 0 rfl _ _ h ⟨by omega, fun _ => by omega⟩
      have HRes2 : Hid (progP len s = (r.1, ⟨q.enums, q.vars, q.procs, r.2⟩)) := Lib.hid (by rw [HRes.out, ← HRr.out, hr, hp1])
      clear hp1 hr
      go_upto_region 4 with fail
      go_upto_region 5 with (go_at_call 51; have HY := HX7.out _ S6.out.bx.par; (with_reducible refine HY.mono ?_); clear HY; rintro e w7 ⟨rfl, hp, hd⟩; have S7 := Lib.hid (S6.out.step hp hd); have T7 := Lib.hid (hd.blk T6.out (Nat.ne_of_gt S6.out.lo.2)); clear hp hd)
      obtain ⟨A1, c1, rfl⟩ : ∃ A c, vE = .slice A q.enums.length c := by
        obtain ⟨A, c, e, -⟩ := S7.out.en.row
        exact ⟨_, _, e⟩
      obtain ⟨A2, c2, rfl⟩ : ∃ A c, vV = .slice A q.vars.length c := by
        obtain ⟨A, c, e, -⟩ := S7.out.va.row
        exact ⟨_, _, e⟩
      obtain ⟨A3, c3, rfl⟩ : ∃ A c, vP = .slice A q.procs.length c := by
        obtain ⟨A, c, e, -⟩ := S7.out.pr.row
        exact ⟨_, _, e⟩
      go_upto_region 6 with (go_at_call 52; have HY := HBk.out _ S7.out.bx.par; (with_reducible refine HY.mono ?_); clear HY; rintro e w8 ⟨nf, AL, mL, cL, rfl, hp, hd, hr8⟩; have S8 := Lib.hid (S7.out.step hp hd); have T8 := Lib.hid (hd.blk T7.out (Nat.ne_of_gt S7.out.lo.2)); have R8 := Lib.hid (hr8.wide (P' := fun q => g3 + 1 ≤ q ∧ q < w8.heap.size) (fun q hq => ⟨Nat.le_trans T7.out.lt hq.1, hq.2⟩)); have t0 := T8.out.cell 0; have t1 := T8.out.cell 1; have t2 := T8.out.cell 2; have t3 := T8.out.cell 3; have tf0 := T8.out.frozen 0; have tf1 := T8.out.frozen 1; have tf2 := T8.out.frozen 2; have tf3 := T8.out.frozen 3; have tl := T8.out.lt; simp at t0 t1 t2 t3; clear hp hd hr8)
      have PG8 : Hid (PgR (fun q => g3 + 1 ≤ q ∧ q < w8.heap.size) (n + nf) w8 ⟨q.enums, q.vars, q.procs, r.2⟩ (.slice A1 q.enums.length c1) (.slice A2 q.vars.length c2) (.slice A3 q.procs.length c3) (.slice AL mL cL)) := Lib.hid ⟨own_ee S8.out.en (by have := HLn.out; show q.enums.length * 40 ≤ 140737488355328; omega), own_vv S8.out.va (by have := HLn.out; show q.vars.length * 40 ≤ 140737488355328; omega), (own_pp S8.out.pr (by have := HLn.out; show q.procs.length * 40 ≤ 140737488355328; omega)).le (Nat.le_add_right n nf), R8.out.le (Nat.le_add_left nf n)⟩
      obtain ⟨w9, hw9⟩ : ∃ q, q = w8.setCell ⟨g3, 3, none⟩ (.slice AL mL cL) := ⟨_, rfl⟩
      have S9 : Hid (BX B b len M 0 w 28 #[.slice none 0 0, .slice none 0 0, .slice none 0 0, .slice none 0 0] r.1 w9) := Lib.hid (by rw [hw9]; exact S8.out.bx.far (p := ⟨g3, 3, none⟩) S8.out.lo.1 _)
      have T9 : Hid (Blk w9 g3 28 #[.slice A1 q.enums.length c1, .slice A2 q.vars.length c2, .slice A3 q.procs.length c3, .slice AL mL cL]) := Lib.hid (by rw [hw9]; exact T8.out.set_ 3 _)
      have PG9 : Hid (PgR (fun q => g3 + 1 ≤ q ∧ q < w9.heap.size) (n + nf) w9 ⟨q.enums, q.vars, q.procs, r.2⟩ (.slice A1 q.enums.length c1) (.slice A2 q.vars.length c2) (.slice A3 q.procs.length c3) (.slice AL mL cL)) := Lib.hid (by
        rw [hw9]
        exact (PG8.out.kept (fun q hq => Below.heap_setCell _ _ _ _ (by have := hq.1; show q ≠ g3; omega))).wide (fun q hq => ⟨hq.1, by simpa [World.setCell] using hq.2⟩))
      rw [← hw9]
      clear hw9 t0 tf0 t1 tf1 t2 tf2 t3 tf3 tl
      have t0 := T9.out.cell 0
      have t1 := T9.out.cell 1
      have t2 := T9.out.cell 2
      have t3 := T9.out.cell 3
      simp at t0 t1 t2 t3
      have r0 := S9.out.r.cell 0
      have r1 := S9.out.r.cell 1
      have r2 := S9.out.r.cell 2
      have r3 := S9.out.r.cell 3
      have rf0 := S9.out.r.frozen 0
      have rf1 := S9.out.r.frozen 1
      have rf2 := S9.out.r.frozen 2
      have rf3 := S9.out.r.frozen 3
      have rl := S9.out.r.lt
      simp at r0 r1 r2 r3
      go_wp2
      have F := (((S9.out.set_ 0 (.slice A1 q.enums.length c1)).set_ 1 (.slice A2 q.vars.length c2)).set_ 2 (.slice A3 q.procs.length c3)).set_ 3 (.slice AL mL cL)
      have q0 := F.r.cell 0
      have q1 := F.r.cell 1
      have q2 := F.r.cell 2
      have q3 := F.r.cell 3
      simp at q0 q1 q2 q3
      rw [HRes2.out]
      refine bodyPost_ret (v := pgV (.slice A1 q.enums.length c1) (.slice A2 q.vars.length c2) (.slice A3 q.procs.length c3) (.slice AL mL cL)) (by simp [results, Tryz.results21, go_sem, q0, q1, q2, q3]) rfl ⟨n + nf, _, _, _, _, rfl, F.par, F.pd, ?_⟩
      have K4 := four_kept (w := w9) (g := w.heap.size) (.slice A1 q.enums.length c1) (.slice A2 q.vars.length c2) (.slice A3 q.procs.length c3) (.slice AL mL cL) 0 1 2 3
      exact (PG9.out.kept (fun x hx => K4.1 x (by have := hx.1; have := S8.out.lo.1; omega))).wide (fun x hx => ⟨by have := hx.1; have := S8.out.lo.1; omega, by rw [K4.2]; exact hx.2⟩)
end
end Go.Proofs.YteaongdlbleehaaGreatDoor
