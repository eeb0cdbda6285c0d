/- The parse layer: three rows that grow, while a program is read. -/
import Derived.Test.YteaongdlbleehaaDoorPsEnum
namespace Go.Proofs.YteaongdlbleehaaDoor
open Go.RowKit
section
variable {B b len k n : Nat} {M : Value} {s : PS} {w : World}
/-- A kind whose elements keep out of some blocks. -/
def kX {α : Type} (κ : Kind α) (X : Nat → Prop) : Kind α where
  good P w x cs := κ.good (fun b => P b ∧ ¬ X b) w x cs
  mono h := fun hg => κ.mono (fun b q => ⟨h b q.1, q.2⟩) hg
  kept h := fun hg => κ.kept (fun b q => h b q.1) hg
/-- Enums whose rows are their own. -/
def kEe : Kind (ByteArray × List ByteArray) where
  good P w x cs := ∃ L, cs = [.string x.1, L] ∧ StrR P w x.2 L
  mono h := fun ⟨L, h1, h2⟩ => ⟨L, h1, h2.wide h⟩
  kept h := fun ⟨L, h1, h2⟩ => ⟨L, h1, h2.kept h⟩
/-- The blocks of two rows. -/
def XX (a c : Value) (g : Nat) : Prop := a.ownBlock = some g ∨ c.ownBlock = some g
theorem OwnL.apart {α : Type} {κ : Kind α} {X X' : Nat → Prop} {T : TypeId} {j base : Nat} {w w' : World} {v : Value} {l : List α} {o : Option Nat} (h : OwnL (kX κ X) T j base w v l) (hg : w.grownBy w' o) (hne : ∀ g, v.ownBlock = some g → o ≠ some g)
    (hX : ∀ g, o = some g → X g) (hX' : ∀ g, g < w.heap.size → X' g → X g) : OwnL (kX κ X') T j base w' v l := by
  obtain ⟨css, h1, h2, h3⟩ := h
  refine ⟨css, h1, ⟨h2.1, ?_⟩, fun i x cs hx hc => ⟨(h3 i x cs hx hc).1, ?_⟩⟩
  · rcases h2.2 with q | ⟨g, cap, cur, e1, e2, e3, r⟩
    · exact .inl q
    · exact .inr ⟨g, cap, cur, e1, e2, (hg.block g (Array.getElem?_eq_some_iff.1 e3).1 (fun e => hne g (by rw [e1]; rfl) e.symm)).trans e3, r⟩
  · have q := (h3 i x cs hx hc).2
    exact κ.mono (fun b q => ⟨⟨q.1.1, Nat.lt_of_lt_of_le q.1.2.1 hg.size, q.1.2.2⟩, fun e => q.2 (hX' b q.1.2.1 e)⟩) (κ.kept (fun b q => hg.block b q.1.2.1 (fun e => q.2 (hX b e.symm))) q)
theorem OwnL.upP {n m j base : Nat} {X : Nat → Prop} {T : TypeId} {w : World} {v : Value} {l : List (ByteArray × List St)} (h : OwnL (kX (kPr n) X) T j base w v l) (hn : n ≤ m) : OwnL (kX (kPr m) X) T j base w v l := by
  obtain ⟨css, h1, h2, h3⟩ := h
  refine ⟨css, h1, h2, fun i x cs hx hc => ⟨(h3 i x cs hx hc).1, ?_⟩⟩
  obtain ⟨L, e1, e2⟩ := (h3 i x cs hx hc).2
  exact ⟨L, e1, e2.le hn⟩
/-- While a program is read: its result's box, and the three rows. -/
structure PB (B b len : Nat) (M : Value) (w : World) (g3 n : Nat) (q : Pg) (vE vV vP : Value) (s : PS) (W : World) : Prop where
  bx : BX B b len M 0 w 39 #[.slice none 0 0, .slice none 0 0, .slice none 0 0, .slice none 0 0] s W
  lo : w.heap.size < g3 ∧ b < g3
  en : OwnL (kX kEe (XX vV vP)) 64 2 (g3 + 1) W vE q.enums
  va : OwnL (kX kVa (XX vE vP)) 68 3 (g3 + 1) W vV q.vars
  pr : OwnL (kX (kPr n) (XX vE vV)) 71 2 (g3 + 1) W vP q.procs
  f1 : ∀ g, vE.ownBlock = some g → vV.ownBlock ≠ some g ∧ vP.ownBlock ≠ some g
  f2 : ∀ g, vV.ownBlock = some g → vP.ownBlock ≠ some g
section
variable {g3 m : Nat} {q : Pg} {vE vV vP v' : Value} {s' : PS} {W W' : World}
theorem PB.step (h : PB B b len M w g3 n q vE vV vP s W) (hp : Par B b len M 0 0 s' W') (hd : Pd b W W') : PB B b len M w g3 n q vE vV vP s' W' :=
  ⟨h.bx.step hp hd, h.lo, h.en.pd hd (Nat.lt_succ_of_lt h.lo.2), h.va.pd hd (Nat.lt_succ_of_lt h.lo.2), h.pr.pd hd (Nat.lt_succ_of_lt h.lo.2), h.f1, h.f2⟩
theorem PB.below (h : PB B b len M w g3 n q vE vV vP s W) (hb : Below W.heap.size W W') : PB B b len M w g3 n q vE vV vP s W' := h.step (h.bx.par.below hb) (Pd.of_below hb b)
theorem PB.up (h : PB B b len M w g3 n q vE vV vP s W) (hn : n ≤ m) : PB B b len M w g3 m q vE vV vP s W := ⟨h.bx, h.lo, h.en, h.va, h.pr.upP hn, h.f1, h.f2⟩
theorem PB.set_ (h : PB B b len M w g3 n q vE vV vP s W) (i : Nat) (u : Value) : PB B b len M w g3 n q vE vV vP s (W.setCell ⟨g3, i, none⟩ u) :=
  ⟨h.bx.far (p := ⟨g3, i, none⟩) h.lo.1 _, h.lo, h.en.set_ ⟨g3, i, none⟩ _ (Nat.lt_succ_self _), h.va.set_ ⟨g3, i, none⟩ _ (Nat.lt_succ_self _), h.pr.set_ ⟨g3, i, none⟩ _ (Nat.lt_succ_self _), h.f1, h.f2⟩
theorem PB.moreE {x : ByteArray × List ByteArray} {cs : List Value} {css : List (List Value)} (h : PB B b len M w g3 n q vE vV vP s W) (h1 : css.length = q.enums.length)
    (h3 : ∀ (i : Nat) (x : ByteArray × List ByteArray) (cs : List Value), q.enums[i]? = some x → css[i]? = some cs → cs.length = 2 ∧ (kX kEe (XX vV vP)).good (fun b => g3 + 1 ≤ b ∧ b < W.heap.size ∧ vE.ownBlock ≠ some b) W x cs)
    (ho : W'.ownsRow (g3 + 1) 64 2 v' (q.enums.length + 1) (css.flatten ++ cs)) (hg : W.grownBy W' vE.ownBlock) (hv : v'.ownBlock = vE.ownBlock ∨ v'.ownBlock = some W.heap.size)
    (hc : cs.length = 2) (hx : (kX kEe (XX vV vP)).good (fun b => g3 + 1 ≤ b ∧ b < W.heap.size ∧ vE.ownBlock ≠ some b) W x cs) : PB B b len M w g3 n ⟨q.enums ++ [x], q.vars, q.procs, q.main⟩ v' vV vP s W' := by
  have hV := h.va.apart (X' := XX v' vP) hg (fun g e e2 => (h.f1 g e2).1 e) (fun g e => Or.inl e) (fun g hl e => by
      rcases e with e | e
      · rcases hv with e2 | e2
        · exact Or.inl (by rw [← e2]; exact e)
        · rw [e2] at e; injection e with e; omega
      · exact Or.inr e)
  have hP := h.pr.apart (X' := XX v' vV) hg (fun g e e2 => (h.f1 g e2).2 e) (fun g e => Or.inl e) (fun g hl e => by
      rcases e with e | e
      · rcases hv with e2 | e2
        · exact Or.inl (by rw [← e2]; exact e)
        · rw [e2] at e; injection e with e; omega
      · exact Or.inr e)
  have hf1 : ∀ g, v'.ownBlock = some g → vV.ownBlock ≠ some g ∧ vP.ownBlock ≠ some g := fun g e => by
    rcases hv with e2 | e2
    · exact h.f1 g (by rw [← e2]; exact e)
    · rw [e2] at e
      injection e with e
      subst e
      exact ⟨fun e => Nat.lt_irrefl _ (h.va.lt _ e).2, fun e => Nat.lt_irrefl _ (h.pr.lt _ e).2⟩
  have hf2 : ∀ g, vV.ownBlock = some g → vP.ownBlock ≠ some g := h.f2
  exact ⟨h.bx.grown hg (fun g e => Nat.lt_of_lt_of_le h.lo.1 (Nat.le_of_succ_le (h.en.lt g e).1)), h.lo, OwnL.more h1 h3 ho hg hv hc hx, hV, hP, hf1, hf2⟩
theorem PB.moreV {x : ByteArray × ByteArray × Int} {cs : List Value} {css : List (List Value)} (h : PB B b len M w g3 n q vE vV vP s W) (h1 : css.length = q.vars.length)
    (h3 : ∀ (i : Nat) (x : ByteArray × ByteArray × Int) (cs : List Value), q.vars[i]? = some x → css[i]? = some cs → cs.length = 3 ∧ (kX kVa (XX vE vP)).good (fun b => g3 + 1 ≤ b ∧ b < W.heap.size ∧ vV.ownBlock ≠ some b) W x cs)
    (ho : W'.ownsRow (g3 + 1) 68 3 v' (q.vars.length + 1) (css.flatten ++ cs)) (hg : W.grownBy W' vV.ownBlock) (hv : v'.ownBlock = vV.ownBlock ∨ v'.ownBlock = some W.heap.size)
    (hc : cs.length = 3) (hx : (kX kVa (XX vE vP)).good (fun b => g3 + 1 ≤ b ∧ b < W.heap.size ∧ vV.ownBlock ≠ some b) W x cs) : PB B b len M w g3 n ⟨q.enums, q.vars ++ [x], q.procs, q.main⟩ vE v' vP s W' := by
  have hE := h.en.apart (X' := XX v' vP) hg (fun g e e2 => (h.f1 g e).1 e2) (fun g e => Or.inl e) (fun g hl e => by
      rcases e with e | e
      · rcases hv with e2 | e2
        · exact Or.inl (by rw [← e2]; exact e)
        · rw [e2] at e; injection e with e; omega
      · exact Or.inr e)
  have hP := h.pr.apart (X' := XX vE v') hg (fun g e e2 => h.f2 g e2 e) (fun g e => Or.inr e) (fun g hl e => by
      rcases e with e | e
      · exact Or.inl e
      · rcases hv with e2 | e2
        · exact Or.inr (by rw [← e2]; exact e)
        · rw [e2] at e; injection e with e; omega)
  have hf1 : ∀ g, vE.ownBlock = some g → v'.ownBlock ≠ some g ∧ vP.ownBlock ≠ some g := fun g e => ⟨fun e3 => by
    rcases hv with e2 | e2
    · exact (h.f1 g e).1 (by rw [← e2]; exact e3)
    · rw [e2] at e3
      injection e3 with e3
      subst e3
      exact Nat.lt_irrefl _ (h.en.lt _ e).2, (h.f1 g e).2⟩
  have hf2 : ∀ g, v'.ownBlock = some g → vP.ownBlock ≠ some g := fun g e => by
    rcases hv with e2 | e2
    · exact h.f2 g (by rw [← e2]; exact e)
    · rw [e2] at e
      injection e with e
      subst e
      exact fun e => Nat.lt_irrefl _ (h.pr.lt _ e).2
  exact ⟨h.bx.grown hg (fun g e => Nat.lt_of_lt_of_le h.lo.1 (Nat.le_of_succ_le (h.va.lt g e).1)), h.lo, hE, OwnL.more h1 h3 ho hg hv hc hx, hP, hf1, hf2⟩
theorem PB.moreP {x : ByteArray × List St} {cs : List Value} {css : List (List Value)} (h : PB B b len M w g3 n q vE vV vP s W) (h1 : css.length = q.procs.length)
    (h3 : ∀ (i : Nat) (x : ByteArray × List St) (cs : List Value), q.procs[i]? = some x → css[i]? = some cs → cs.length = 2 ∧ (kX (kPr n) (XX vE vV)).good (fun b => g3 + 1 ≤ b ∧ b < W.heap.size ∧ vP.ownBlock ≠ some b) W x cs)
    (ho : W'.ownsRow (g3 + 1) 71 2 v' (q.procs.length + 1) (css.flatten ++ cs)) (hg : W.grownBy W' vP.ownBlock) (hv : v'.ownBlock = vP.ownBlock ∨ v'.ownBlock = some W.heap.size)
    (hc : cs.length = 2) (hx : (kX (kPr n) (XX vE vV)).good (fun b => g3 + 1 ≤ b ∧ b < W.heap.size ∧ vP.ownBlock ≠ some b) W x cs) : PB B b len M w g3 n ⟨q.enums, q.vars, q.procs ++ [x], q.main⟩ vE vV v' s W' := by
  have hE := h.en.apart (X' := XX vV v') hg (fun g e e2 => (h.f1 g e).2 e2) (fun g e => Or.inr e) (fun g hl e => by
      rcases e with e | e
      · exact Or.inl e
      · rcases hv with e2 | e2
        · exact Or.inr (by rw [← e2]; exact e)
        · rw [e2] at e; injection e with e; omega)
  have hV := h.va.apart (X' := XX vE v') hg (fun g e e2 => h.f2 g e e2) (fun g e => Or.inr e) (fun g hl e => by
      rcases e with e | e
      · exact Or.inl e
      · rcases hv with e2 | e2
        · exact Or.inr (by rw [← e2]; exact e)
        · rw [e2] at e; injection e with e; omega)
  have hf1 : ∀ g, vE.ownBlock = some g → vV.ownBlock ≠ some g ∧ v'.ownBlock ≠ some g := fun g e => ⟨(h.f1 g e).1, fun e3 => by
    rcases hv with e2 | e2
    · exact (h.f1 g e).2 (by rw [← e2]; exact e3)
    · rw [e2] at e3
      injection e3 with e3
      subst e3
      exact Nat.lt_irrefl _ (h.en.lt _ e).2⟩
  have hf2 : ∀ g, vV.ownBlock = some g → v'.ownBlock ≠ some g := fun g e e3 => by
    rcases hv with e2 | e2
    · exact h.f2 g e (by rw [← e2]; exact e3)
    · rw [e2] at e3
      injection e3 with e3
      subst e3
      exact Nat.lt_irrefl _ (h.va.lt _ e).2
  exact ⟨h.bx.grown hg (fun g e => Nat.lt_of_lt_of_le h.lo.1 (Nat.le_of_succ_le (h.pr.lt g e).1)), h.lo, hE, hV, OwnL.more h1 h3 ho hg hv hc hx, hf1, hf2⟩
end
end
end Go.Proofs.YteaongdlbleehaaDoor
