/- The tree layer: what stands while the law's Prog goes. -/
import Derived.Test.YteaongdlbleehaaGreatDoorGTrPg
namespace Go.Proofs.YteaongdlbleehaaGreatDoor
open Go.RowKit
theorem enfo : (Tryz.prog.info? 67).map (fun i => (i.zero, i.size, i.bytes)) = some (some (.agg #[.string ⟨#[]⟩, .slice none 0 0]), 2, 40) := by kernel_rfl
theorem vafo : (Tryz.prog.info? 70).map (fun i => (i.zero, i.size, i.bytes)) = some (some (.agg #[.string ⟨#[]⟩, .string ⟨#[]⟩, .int .i64 0]), 3, 40) := by kernel_rfl
theorem prfo : (Tryz.prog.info? 73).map (fun i => (i.zero, i.size, i.bytes)) = some (some (.agg #[.string ⟨#[]⟩, .slice none 0 0]), 2, 40) := by kernel_rfl
theorem news_two {w : World} {g : Nat} {t : TypeId} {a b : Value} (h : Blk w g t #[a, b]) : ∀ (j : Nat) (u : Value), [a, b][j]? = some u → w.cell? ((⟨g, 0, none⟩ : Addr).add j) = some u := fun j u hu => by
  rw [Addr.add_lit, Nat.zero_add]
  exact (h.cell j).trans (by simpa using hu)
theorem news_three {w : World} {g : Nat} {t : TypeId} {a b c : Value} (h : Blk w g t #[a, b, c]) : ∀ (j : Nat) (u : Value), [a, b, c][j]? = some u → w.cell? ((⟨g, 0, none⟩ : Addr).add j) = some u := fun j u hu => by
  rw [Addr.add_lit, Nat.zero_add]
  exact (h.cell j).trans (by simpa using hu)
theorem one_two (a : ByteArray) (A : Option Addr) (n cap : Nat) : ∀ u ∈ [Value.string a, Value.slice A n cap], u.oneCell' = true := by
  intro u hu
  simp at hu
  rcases hu with rfl | rfl <;> rfl
theorem one_three (a b : ByteArray) (k : Int) : ∀ u ∈ [Value.string a, Value.string b, Value.int .i64 k], u.oneCell' = true := by
  intro u hu
  simp at hu
  rcases hu with rfl | rfl | rfl <;> rfl
theorem nil_own (g : Nat) : (Value.slice none 0 0).ownBlock ≠ some g := fun e => by cases e
/-- Enums, whose rows lie in the first world; variables; procedures. -/
def kEn (W : World) : Kind (ByteArray × List ByteArray) where
  good _ _ x cs := ∃ L, cs = [.string x.1, L] ∧ StrR (fun b => b < W.heap.size) W x.2 L
  mono _ h := h
  kept _ h := h
def kVa : Kind (ByteArray × ByteArray × Int) where
  good _ _ x cs := cs = [.string x.1, .string x.2.1, .int .i64 x.2.2] ∧ In64 x.2.2
  mono _ h := h
  kept _ h := h
def kPr (n : Nat) : Kind (ByteArray × List St) where
  good P w x cs := ∃ L, cs = [.string x.1, L] ∧ StR P n w x.2 L
  mono h := fun ⟨L, h1, h2⟩ => ⟨L, h1, h2.wide h⟩
  kept h := fun ⟨L, h1, h2⟩ => ⟨L, h1, h2.kept h⟩
theorem own_en {W w : World} {base g : Nat} {T : TypeId} {v : Value} {l : List (ByteArray × List ByteArray)} (h : OwnL (kEn W) T 2 base w v l) (hb : Below W.heap.size W w) (hl : l.length * 40 ≤ 140737488355328) (hg : W.heap.size ≤ g) (hg2 : g < base) : EnR (fun b => b < w.heap.size ∧ b ≠ g) w l v := by
  obtain ⟨A, cap, h1, h2, h3⟩ := h.row
  refine ⟨A, cap, h1, h2, hl, fun i x hx => ?_⟩
  obtain ⟨b, cs, e1, e2, e3, e4, L, rfl, e5⟩ := h3 i x hx
  exact ⟨b, 0, L, e1, ⟨e2.2, Nat.ne_of_gt (Nat.lt_of_lt_of_le hg2 e2.1)⟩, by rw [Nat.zero_add]; exact ⟨e4 0 (by omega), e4 1 (by omega)⟩, (e5.kept (fun b q => hb.block b q)).wide (fun b q => ⟨Nat.lt_of_lt_of_le q hb.size, Nat.ne_of_lt (Nat.lt_of_lt_of_le q hg)⟩)⟩
theorem own_va {w : World} {base g : Nat} {T : TypeId} {v : Value} {l : List (ByteArray × ByteArray × Int)} (h : OwnL kVa T 3 base w v l) (hl : l.length * 40 ≤ 140737488355328) (hg2 : g < base) : VaR (fun b => b < w.heap.size ∧ b ≠ g) w l v := by
  obtain ⟨A, cap, h1, h2, h3⟩ := h.row
  refine ⟨A, cap, h1, h2, hl, fun i x hx => ?_⟩
  obtain ⟨b, cs, e1, e2, e3, e4, rfl, e5⟩ := h3 i x hx
  exact ⟨b, 0, e1, ⟨e2.2, Nat.ne_of_gt (Nat.lt_of_lt_of_le hg2 e2.1)⟩, by rw [Nat.zero_add]; exact ⟨e4 0 (by omega), e4 1 (by omega), e4 2 (by omega)⟩, e5⟩
theorem own_pr {n : Nat} {w : World} {base g : Nat} {T : TypeId} {v : Value} {l : List (ByteArray × List St)} (h : OwnL (kPr n) T 2 base w v l) (hl : l.length * 40 ≤ 140737488355328) (hg2 : g < base) : PrR (fun b => b < w.heap.size ∧ b ≠ g) n w l v := by
  obtain ⟨A, cap, h1, h2, h3⟩ := h.row
  refine ⟨A, cap, h1, h2, hl, fun i x hx => ?_⟩
  obtain ⟨b, cs, e1, e2, e3, e4, L, rfl, e5⟩ := h3 i x hx
  exact ⟨b, 0, L, e1, ⟨e2.2, Nat.ne_of_gt (Nat.lt_of_lt_of_le hg2 e2.1)⟩, by rw [Nat.zero_add]; exact ⟨e4 0 (by omega), e4 1 (by omega)⟩, e5.wide (fun b q => ⟨q.2, Nat.ne_of_gt (Nat.lt_of_lt_of_le hg2 q.1)⟩)⟩
theorem four_kept {w : World} {g : Nat} (a b c d : Value) (i j k m : Nat) : (∀ x, x ≠ g → ((((w.setCell ⟨g, i, none⟩ a).setCell ⟨g, j, none⟩ b).setCell ⟨g, k, none⟩ c).setCell ⟨g, m, none⟩ d).heap[x]? = w.heap[x]?) ∧ ((((w.setCell ⟨g, i, none⟩ a).setCell ⟨g, j, none⟩ b).setCell ⟨g, k, none⟩ c).setCell ⟨g, m, none⟩ d).heap.size = w.heap.size := by
  refine ⟨fun x hx => ?_, by simp [World.setCell]⟩
  rw [Below.heap_setCell _ _ _ _ hx, Below.heap_setCell _ _ _ _ hx, Below.heap_setCell _ _ _ _ hx, Below.heap_setCell _ _ _ _ hx]
/-- A row whose elements lead nowhere new is left by what grows beside it. -/
theorem OwnL.aside {α : Type} {κ : Kind α} {T : TypeId} {k base : Nat} {w w' : World} {v : Value} {l : List α} {o : Option Nat} (h : OwnL κ T k base w v l) (hg : w.grownBy w' o) (hne : ∀ g, v.ownBlock = some g → o ≠ some g)
    (hκ : ∀ (P P' : Nat → Prop) (u u' : World) (x : α) (cs : List Value), κ.good P u x cs → κ.good P' u' x cs) : OwnL κ T k base w' v l := by
  obtain ⟨css, h1, h2, h3⟩ := h
  refine ⟨css, h1, ⟨h2.1, ?_⟩, fun i x cs hx hc => ⟨(h3 i x cs hx hc).1, hκ _ _ _ _ _ _ (h3 i x cs hx hc).2⟩⟩
  rcases h2.2 with q | ⟨g, cap, cur, e1, e2, e3, r⟩
  · exact .inl q
  · exact .inr ⟨g, cap, cur, e1, e2, (hg.block g (Array.getElem?_eq_some_iff.1 e3).1 (fun e => hne g (by rw [e1]; rfl) e.symm)).trans e3, r⟩
/-- While Prog goes: its box (what it holds; what the rows are by now), and the three rows. -/
structure PI (W w1 : World) (n : Nat) (vM bE bV bP vE vV vP : Value) (lE : List (ByteArray × List ByteArray)) (lV : List (ByteArray × ByteArray × Int)) (lP : List (ByteArray × List St)) (w : World) : Prop where
  low : Below w1.heap.size w1 w
  box : Blk w w1.heap.size 28 #[bE, bV, bP, vM]
  en : OwnL (kEn W) 67 2 (w1.heap.size + 1) w vE lE
  va : OwnL kVa 70 3 (w1.heap.size + 1) w vV lV
  pr : OwnL (kPr n) 73 2 (w1.heap.size + 1) w vP lP
  f1 : ∀ g, vE.ownBlock = some g → vV.ownBlock ≠ some g ∧ vP.ownBlock ≠ some g
  f2 : ∀ g, vV.ownBlock = some g → vP.ownBlock ≠ some g
section
variable {W w1 w w' : World} {n : Nat} {vM bE bV bP vE vV vP : Value} {lE : List (ByteArray × List ByteArray)} {lV : List (ByteArray × ByteArray × Int)} {lP : List (ByteArray × List St)}
theorem PI.base (h : PI W w1 n vM bE bV bP vE vV vP lE lV lP w) : w1.heap.size + 1 ≤ w.heap.size := h.box.lt
theorem PI.below (h : PI W w1 n vM bE bV bP vE vV vP lE lV lP w) (hb : Below w.heap.size w w') : PI W w1 n vM bE bV bP vE vV vP lE lV lP w' :=
  ⟨h.low.trans (hb.mono h.low.size), h.box.below hb h.box.lt, h.en.below hb, h.va.below hb, h.pr.below hb, h.f1, h.f2⟩
theorem PI.putE (h : PI W w1 n vM bE bV bP vE vV vP lE lV lP w) : PI W w1 n vM vE bV bP vE vV vP lE lV lP (w.setCell ⟨w1.heap.size, 0, none⟩ vE) :=
  ⟨h.low.setCell (p := ⟨w1.heap.size, 0, none⟩) (Nat.le_refl _) _, h.box.set_ 0 _, h.en.set_ _ _ (Nat.lt_succ_self _), h.va.set_ _ _ (Nat.lt_succ_self _), h.pr.set_ _ _ (Nat.lt_succ_self _), h.f1, h.f2⟩
theorem PI.putV (h : PI W w1 n vM bE bV bP vE vV vP lE lV lP w) : PI W w1 n vM bE vV bP vE vV vP lE lV lP (w.setCell ⟨w1.heap.size, 1, none⟩ vV) :=
  ⟨h.low.setCell (p := ⟨w1.heap.size, 1, none⟩) (Nat.le_refl _) _, h.box.set_ 1 _, h.en.set_ _ _ (Nat.lt_succ_self _), h.va.set_ _ _ (Nat.lt_succ_self _), h.pr.set_ _ _ (Nat.lt_succ_self _), h.f1, h.f2⟩
theorem PI.putP (h : PI W w1 n vM bE bV bP vE vV vP lE lV lP w) : PI W w1 n vM bE bV vP vE vV vP lE lV lP (w.setCell ⟨w1.heap.size, 2, none⟩ vP) :=
  ⟨h.low.setCell (p := ⟨w1.heap.size, 2, none⟩) (Nat.le_refl _) _, h.box.set_ 2 _, h.en.set_ _ _ (Nat.lt_succ_self _), h.va.set_ _ _ (Nat.lt_succ_self _), h.pr.set_ _ _ (Nat.lt_succ_self _), h.f1, h.f2⟩
theorem low_grown {o : Option Nat} (h : Below w1.heap.size w1 w) (hg : w.grownBy w' o) (ho : ∀ g, o = some g → w1.heap.size + 1 ≤ g) : Below w1.heap.size w1 w' :=
  Below.grown h hg h.size (fun g e => Nat.le_of_succ_le (ho g e))
theorem PI.moreE {x : ByteArray × List ByteArray} {k : Nat} {L : List (ByteArray × List ByteArray)} {v' : Value} {cs : List Value} {css : List (List Value)} (h : PI W w1 n vM bE bV bP vE (.slice none 0 0) (.slice none 0 0) (L.take k) [] [] w) (hx : L[k]? = some x) (h1 : css.length = (L.take k).length)
    (h3 : ∀ (i : Nat) x cs, (L.take k)[i]? = some x → css[i]? = some cs → cs.length = 2 ∧ (kEn W).good (fun b => w1.heap.size + 1 ≤ b ∧ b < w.heap.size ∧ vE.ownBlock ≠ some b) w x cs)
    (h2 : w.ownsRow (w1.heap.size + 1) 67 2 vE k css.flatten)
    (ho : w'.ownsRow (w1.heap.size + 1) 67 2 v' (k + 1) (css.flatten ++ cs)) (hg : w.grownBy w' vE.ownBlock) (hv : v'.ownBlock = vE.ownBlock ∨ v'.ownBlock = some w.heap.size)
    (hc : cs.length = 2 ∧ (kEn W).good (fun b => w1.heap.size + 1 ≤ b ∧ b < w.heap.size ∧ vE.ownBlock ≠ some b) w x cs) :
    PI W w1 n vM bE bV bP v' (.slice none 0 0) (.slice none 0 0) (L.take (k + 1)) [] [] w' := by
  have hk : k < L.length := (List.getElem?_eq_some_iff.1 hx).1
  have hlen : (L.take k).length = k := by rw [List.length_take]; omega
  refine ⟨low_grown h.low hg (fun g e => (h2.lt g e).1), h.box.grown hg (fun e => by have := (h2.lt _ e.symm).1; omega), ?_, OwnL.nil _ _, OwnL.nil _ _, fun g _ => ⟨nil_own g, nil_own g⟩, fun g e => absurd e (nil_own g)⟩
  rw [take_one hx]
  exact OwnL.more h1 h3 (by rw [hlen]; exact ho) hg hv hc.1 hc.2
theorem PI.moreV {x : ByteArray × ByteArray × Int} {k : Nat} {L : List (ByteArray × ByteArray × Int)} {v' : Value} {cs : List Value} {css : List (List Value)} (h : PI W w1 n vM bE bV bP vE vV (.slice none 0 0) lE (L.take k) [] w) (hx : L[k]? = some x) (h1 : css.length = (L.take k).length)
    (h3 : ∀ (i : Nat) x cs, (L.take k)[i]? = some x → css[i]? = some cs → cs.length = 3 ∧ kVa.good (fun b => w1.heap.size + 1 ≤ b ∧ b < w.heap.size ∧ vV.ownBlock ≠ some b) w x cs)
    (h2 : w.ownsRow (w1.heap.size + 1) 70 3 vV k css.flatten)
    (ho : w'.ownsRow (w1.heap.size + 1) 70 3 v' (k + 1) (css.flatten ++ cs)) (hg : w.grownBy w' vV.ownBlock) (hv : v'.ownBlock = vV.ownBlock ∨ v'.ownBlock = some w.heap.size)
    (hc : cs.length = 3 ∧ kVa.good (fun b => w1.heap.size + 1 ≤ b ∧ b < w.heap.size ∧ vV.ownBlock ≠ some b) w x cs) :
    PI W w1 n vM bE bV bP vE v' (.slice none 0 0) lE (L.take (k + 1)) [] w' := by
  have hk : k < L.length := (List.getElem?_eq_some_iff.1 hx).1
  have hlen : (L.take k).length = k := by rw [List.length_take]; omega
  refine ⟨low_grown h.low hg (fun g e => (h2.lt g e).1), h.box.grown hg (fun e => by have := (h2.lt _ e.symm).1; omega), h.en.aside hg (fun g e => (h.f1 g e).1) (fun _ _ _ _ _ _ q => q), ?_, OwnL.nil _ _, fun g e => ⟨?_, nil_own g⟩, fun g _ => nil_own g⟩
  · rw [take_one hx]
    exact OwnL.more h1 h3 (by rw [hlen]; exact ho) hg hv hc.1 hc.2
  · rcases hv with q | q
    · rw [q]; exact (h.f1 g e).1
    · rw [q]; intro e2; injection e2 with e2; have := (h.en.lt g e).2; omega
theorem PI.moreP {x : ByteArray × List St} {k : Nat} {L : List (ByteArray × List St)} {v' : Value} {cs : List Value} {css : List (List Value)} (h : PI W w1 n vM bE bV bP vE vV vP lE lV (L.take k) w) (hx : L[k]? = some x) (h1 : css.length = (L.take k).length)
    (h3 : ∀ (i : Nat) x cs, (L.take k)[i]? = some x → css[i]? = some cs → cs.length = 2 ∧ (kPr n).good (fun b => w1.heap.size + 1 ≤ b ∧ b < w.heap.size ∧ vP.ownBlock ≠ some b) w x cs)
    (h2 : w.ownsRow (w1.heap.size + 1) 73 2 vP k css.flatten)
    (ho : w'.ownsRow (w1.heap.size + 1) 73 2 v' (k + 1) (css.flatten ++ cs)) (hg : w.grownBy w' vP.ownBlock) (hv : v'.ownBlock = vP.ownBlock ∨ v'.ownBlock = some w.heap.size)
    (hc : cs.length = 2 ∧ (kPr n).good (fun b => w1.heap.size + 1 ≤ b ∧ b < w.heap.size ∧ vP.ownBlock ≠ some b) w x cs) :
    PI W w1 n vM bE bV bP vE vV v' lE lV (L.take (k + 1)) w' := by
  have hk : k < L.length := (List.getElem?_eq_some_iff.1 hx).1
  have hlen : (L.take k).length = k := by rw [List.length_take]; omega
  refine ⟨low_grown h.low hg (fun g e => (h2.lt g e).1), h.box.grown hg (fun e => by have := (h2.lt _ e.symm).1; omega), h.en.aside hg (fun g e => (h.f1 g e).2) (fun _ _ _ _ _ _ q => q), h.va.aside hg (fun g e => h.f2 g e) (fun _ _ _ _ _ _ q => q), ?_, fun g e => ⟨(h.f1 g e).1, ?_⟩, fun g e => ?_⟩
  · rw [take_one hx]
    exact OwnL.more h1 h3 (by rw [hlen]; exact ho) hg hv hc.1 hc.2
  · rcases hv with q | q
    · rw [q]; exact (h.f1 g e).2
    · rw [q]; intro e2; injection e2 with e2; have := (h.en.lt g e).2; omega
  · rcases hv with q | q
    · rw [q]; exact h.f2 g e
    · rw [q]; intro e2; injection e2 with e2; have := (h.va.lt g e).2; omega
theorem pi_new (W w1 : World) (n : Nat) (vM : Value) : PI W w1 n vM (.slice none 0 0) (.slice none 0 0) (.slice none 0 0) (.slice none 0 0) (.slice none 0 0) (.slice none 0 0) [] [] [] (w1.alloc (.cells #[.slice none 0 0, .slice none 0 0, .slice none 0 0, vM] 28)) :=
  ⟨(Below.refl _ _).alloc (Nat.le_refl _) _, Blk.new _ _ _, OwnL.nil _ _, OwnL.nil _ _, OwnL.nil _ _, fun g e => absurd e (nil_own g), fun g e => absurd e (nil_own g)⟩
end
/-- What Prog tells. -/
def RetPg (n : Nat) (p : Pg) (W : World) (e : Ending) (w' : World) : Prop :=
  ∃ vE vV vP vM, e = .returned (pgV vE vV vP vM) ∧ PgR (fun b => b < w'.heap.size) n w' p vE vV vP vM ∧ Below W.heap.size W w'
end Go.Proofs.YteaongdlbleehaaGreatDoor
