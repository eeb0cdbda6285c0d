/- The parse layer: an expression that is read. -/
import Derived.Test.YteaongdlbleehaaDoorPsSmall
import Derived.Test.YteaongdlbleehaaDoorTrBase
namespace Go.Proofs.YteaongdlbleehaaDoor
open Go.RowKit
/-- What a method that reads an expression tells: its value, what is left; its rows are new. -/
def RetX (B b len : Nat) (M : Value) (k d : Nat) (r : PS × Ex) (w : World) (e : Ending) (w' : World) : Prop :=
  ∃ n A m c, e = .returned (exV r.2.op r.2.nm r.2.n (.slice A m c) r.2.a) ∧ Par B b len M k d r.1 w' ∧ Pd b w w' ∧ In64 r.2.n ∧ In64 r.2.a ∧ ExR (fun q => w.heap.size ≤ q ∧ q < w'.heap.size) n w' r.2.l (.slice A m c)
/-- How deep it may be. -/
def DOK (d : Nat) (s : PS) : Prop := d ≤ 33 ∧ (s.ts ≠ [] → d ≤ 32)
def PXp (B b len : Nat) (M : Value) (k f : Nat) : Prop := ∀ (d : Nat) (s : PS) (w : World), Par B b len M k d s w → DOK d s → 8 * s.ts.length + 1 ≤ f → Calls Tryd.prog 35 #[.pointer (some ⟨b, 0, none⟩)] w (RetX B b len M k d (exF len f .part d s) w)
def PXs (B b len : Nat) (M : Value) (k f : Nat) : Prop := ∀ (o d : Nat) (s : PS) (w : World), 1 ≤ o → o ≤ 6 → Par B b len M k d s w → DOK d s → 8 * s.ts.length + 8 ≤ f + o → Calls Tryd.prog 16 #[.pointer (some ⟨b, 0, none⟩), .int .i64 (o : Int)] w (RetX B b len M k d (exF len f (.parts o) d s) w)
section
variable {B b len k d n : Nat} {M : Value} {s : PS} {w w1 : World}
theorem five_kept {g : Nat} (a c e f h : Value) : (∀ x, x ≠ g → (((((w.setCell ⟨g, 0, none⟩ a).setCell ⟨g, 1, none⟩ c).setCell ⟨g, 2, none⟩ e).setCell ⟨g, 3, none⟩ f).setCell ⟨g, 4, none⟩ h).heap[x]? = w.heap[x]?) ∧ (((((w.setCell ⟨g, 0, none⟩ a).setCell ⟨g, 1, none⟩ c).setCell ⟨g, 2, none⟩ e).setCell ⟨g, 3, none⟩ f).setCell ⟨g, 4, none⟩ h).heap.size = w.heap.size := by
  refine ⟨fun x hx => ?_, by simp [World.setCell]⟩
  rw [Below.heap_setCell _ _ _ _ hx, Below.heap_setCell _ _ _ _ hx, Below.heap_setCell _ _ _ _ hx, Below.heap_setCell _ _ _ _ hx, Below.heap_setCell _ _ _ _ hx]
theorem ex_box {g : Nat} (h : Blk w g 24 #[.string ⟨#[]⟩, .string ⟨#[]⟩, .int .i64 0, .slice none 0 0, .int .i64 0]) (a c e f i : Value) : Blk (((((w.setCell ⟨g, 0, none⟩ a).setCell ⟨g, 1, none⟩ c).setCell ⟨g, 2, none⟩ e).setCell ⟨g, 3, none⟩ f).setCell ⟨g, 4, none⟩ i) g 24 #[a, c, e, f, i] := ((((h.set_ 0 _).set_ 1 _).set_ 2 _).set_ 3 _).set_ 4 _
/-- Behind the stores of a result. -/
theorem fin_ex {W : World} {g : Nat} {l : List Ex} {L : Value} (hp : Par B b len M k d s W) (hd : Pd b w W) (hg : w.heap.size ≤ g) (hgb : b ≠ g) (hB : B ≤ g) (hx : ExR (fun q => w.heap.size ≤ q ∧ q < W.heap.size ∧ q ≠ g) n W l L) (a c e f i : Value) :
    Par B b len M k d s (((((W.setCell ⟨g, 0, none⟩ a).setCell ⟨g, 1, none⟩ c).setCell ⟨g, 2, none⟩ e).setCell ⟨g, 3, none⟩ f).setCell ⟨g, 4, none⟩ i) ∧
    Pd b w (((((W.setCell ⟨g, 0, none⟩ a).setCell ⟨g, 1, none⟩ c).setCell ⟨g, 2, none⟩ e).setCell ⟨g, 3, none⟩ f).setCell ⟨g, 4, none⟩ i) ∧
    ExR (fun q => w.heap.size ≤ q ∧ q < (((((W.setCell ⟨g, 0, none⟩ a).setCell ⟨g, 1, none⟩ c).setCell ⟨g, 2, none⟩ e).setCell ⟨g, 3, none⟩ f).setCell ⟨g, 4, none⟩ i).heap.size) n (((((W.setCell ⟨g, 0, none⟩ a).setCell ⟨g, 1, none⟩ c).setCell ⟨g, 2, none⟩ e).setCell ⟨g, 3, none⟩ f).setCell ⟨g, 4, none⟩ i) l L := by
  have F := five_kept (w := W) (g := g) a c e f i
  refine ⟨((((hp.far hgb hB _).far hgb hB _).far hgb hB _).far hgb hB _).far hgb hB _, ((((hd.fresh (p := ⟨g, 0, none⟩) hg _).fresh (p := ⟨g, 1, none⟩) hg _).fresh (p := ⟨g, 2, none⟩) hg _).fresh (p := ⟨g, 3, none⟩) hg _).fresh (p := ⟨g, 4, none⟩) hg _, ?_⟩
  rw [F.2]
  exact (hx.kept fun q h => F.1 q h.2.2).wide fun q h => ⟨h.1, h.2.1⟩
/-- Rows outlast what writes to the parser alone. -/
theorem ExR.pd {P : Nat → Prop} {l : List Ex} {v : Value} (h : ExR P n w l v) (hd : Pd b w w1) (hP : ∀ q, P q → q < w.heap.size ∧ q ≠ b) : ExR P n w1 l v := h.kept fun q hq => hd.block q (hP q hq).1 (hP q hq).2
theorem ExR.set5 {W : World} {g : Nat} {l : List Ex} {v : Value} (h : ExR (fun q => w.heap.size ≤ q ∧ q < W.heap.size ∧ q ≠ g) n W l v) (hb : b < w.heap.size) (u : Value) : ExR (fun q => w.heap.size ≤ q ∧ q < (W.setCell ⟨b, 5, none⟩ u).heap.size ∧ q ≠ g) n (W.setCell ⟨b, 5, none⟩ u) l v :=
  (h.kept fun q hq => Below.heap_setCell _ _ _ _ (by have := hq.1; show q ≠ b; omega)).wide fun q hq => ⟨hq.1, by simpa [World.setCell] using hq.2.1, hq.2.2⟩
theorem exr_nil {P : Nat → Prop} : ExR P (n + 1) w [] (.slice none 0 0) := ⟨none, 0, rfl, Nat.le_refl _, by simp, fun i x h => by simp at h⟩
theorem exr_one {P : Nat → Prop} {x : Ex} {g : Nat} {t : TypeId} {L : Value} (h : Blk w g t #[.string x.op, .string x.nm, .int .i64 x.n, L, .int .i64 x.a]) (hg : P g) (h1 : In64 x.n) (h2 : In64 x.a) (hr : ExR P n w x.l L) : ExR P (n + 1) w [x] (.slice (some ⟨g, 0, none⟩) 1 1) := by
  refine ⟨some ⟨g, 0, none⟩, 1, rfl, Nat.le_refl _, by simp, fun i y hy => ?_⟩
  cases i with
  | zero =>
    simp at hy; subst hy
    exact ⟨g, 0, L, rfl, hg, ⟨h.cell 0, h.cell 1, h.cell 2, h.cell 3, h.cell 4⟩, h1, h2, hr⟩
  | succ i => simp at hy
theorem dok_enter (hg : s.good) (hd : d ≤ 32) : DOK (d + 1) (enterF len d s) := by
  refine ⟨by omega, fun h => ?_⟩
  by_cases h32 : 32 ≤ d
  · exfalso
    apply h
    unfold enterF takeF
    rw [if_pos h32]
    show (failF len 131 s).ts.tail = []
    unfold failF
    split
    · rfl
    · rename_i h0; rw [hg h0]; rfl
  · omega
theorem in64_zero : In64 0 := by unfold In64; omega
theorem in64_small {a : Nat} (h : a ≤ 1152921504606846976) : In64 (a : Int) := by unfold In64; omega
end
end Go.Proofs.YteaongdlbleehaaDoor
