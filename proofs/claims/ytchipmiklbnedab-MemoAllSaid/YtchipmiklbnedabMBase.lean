/- Memos: words for memory, and what a memo is. -/
import Derived.Test.YtchipmiklbnedabProg
import Derived.Test.YtchipmiklbnedabMMath
import Derived.Below
import Derived.Laws.OwnMore
import Derived.Deep.AppendLies
import Derived.Deep.Draws
import Derived.Laws.Rows
import Derived.Laws.AppendOwn
import Derived.WalkKit
import Derived.WalkSpells
import Derived.IntWalk
import Derived.Outline
import Derived.Lib.Hide
import Derived.Deep.RegionHeld3
import Derived.Deep.DrawnRows
import Derived.Deep.RegionWith
import Derived.Deep.DeepCutAuto
import Derived.BigRegion
import Derived.Deep.QuietTactic
import Derived.BigQuiet
namespace Go.Proofs.Ytchipmiklbnedab
open Go.RowKit

/-! ### The guide's words for a block that is known whole -/
def Blk (w : World) (g : Nat) (t : TypeId) (cs : Array Value) : Prop := w.heap[g]? = some (.cells cs t (0, 0))
section
variable {w w' : World} {g : Nat} {t : TypeId} {cs : Array Value}
theorem Blk.lt (h : Blk w g t cs) : g < w.heap.size := by
  rcases Nat.lt_or_ge g w.heap.size with hlt | hge
  · exact hlt
  · unfold Blk at h; rw [Array.getElem?_eq_none hge] at h; cases h
theorem Blk.cell (h : Blk w g t cs) (i : Nat) : w.cell? ⟨g, i, none⟩ = cs[i]? := cell_of_row w g i cs t (0, 0) h
theorem Blk.frozen (h : Blk w g t cs) (i : Nat) : w.frozen? ⟨g, i, none⟩ = false := by
  unfold Blk at h
  simp [World.frozen?, h]
theorem Blk.new (w : World) (t : TypeId) (cs : Array Value) : Blk (w.alloc (.cells cs t)) w.heap.size t cs := heap_alloc_new w _
theorem Blk.set_ (h : Blk w g t cs) (i : Nat) (u : Value) : Blk (w.setCell ⟨g, i, none⟩ u) g t (cs.setIfInBounds i u) := by
  unfold Blk at h ⊢
  simp [World.setCell, Array.getElem?_modify, h]
theorem Blk.far (h : Blk w g t cs) {p : Addr} (hp : g ≠ p.block) (u : Value) : Blk (w.setCell p u) g t cs := (Below.heap_setCell w p u g hp).trans h
theorem Blk.below {B : Nat} (h : Blk w g t cs) (hb : Below B w w') (hg : g < B) : Blk w' g t cs := (hb.block g hg).trans h
theorem Blk.grown {row : Option Nat} (h : Blk w g t cs) (hb : w.grownBy w' row) (hg : some g ≠ row) : Blk w' g t cs := (hb.block g h.lt hg).trans h
theorem Blk.ne_ {g' : Nat} {t' : TypeId} {cs' : Array Value} (h : Blk w g t cs) (h' : Blk w g' t' cs') (hne : t ≠ t') : g ≠ g' := by
  rintro rfl
  unfold Blk at h h'
  rw [h] at h'
  injection h' with h'
  injection h' with _ ht
  exact hne ht
theorem own_blk_ne {base : Nat} {e : TypeId} {size n : Nat} {v : Value} {xs : List Value} (h : w.ownsRow base e size v n xs) (hg : Blk w g t cs) (hne : e ≠ t) : v.ownBlock ≠ some g := by
  rcases h.2 with ⟨rfl, _⟩ | ⟨g', cap, cur, rfl, _, hh, _⟩
  · simp [Value.ownBlock]
  · intro he
    have : g' = g := by simpa [Value.ownBlock] using he
    subst this
    exact Blk.ne_ (t := e) hh hg hne rfl
end

/-- Only blocks of 'own', and new ones, are other than they were. -/
def Only (own : Nat → Prop) (W W' : World) : Prop := W'.os = W.os ∧ W'.tape = W.tape ∧ W'.output = W.output ∧ W.heap.size ≤ W'.heap.size ∧ ∀ i, i < W.heap.size → ¬ own i → W'.heap[i]? = W.heap[i]?
section
variable {W W1 W2 : World} {own own1 : Nat → Prop}
theorem Only.refl (own : Nat → Prop) (W : World) : Only own W W := ⟨rfl, rfl, rfl, Nat.le_refl _, fun _ _ _ => rfl⟩
theorem Only.size (h : Only own W W1) : W.heap.size ≤ W1.heap.size := h.2.2.2.1
theorem Only.of_below (h : Below W.heap.size W W1) (own : Nat → Prop) : Only own W W1 := ⟨h.os, h.tape, h.output, h.size, fun i hi _ => h.block i hi⟩
/-- One behind the other: what the second one writes lies in 'own', or is new since the start. -/
theorem Only.trans (h : Only own W W1) (k : Only own1 W1 W2) (hs : ∀ i, own1 i → own i ∨ W.heap.size ≤ i) : Only own W W2 :=
  ⟨k.1.trans h.1, k.2.1.trans h.2.1, k.2.2.1.trans h.2.2.1, Nat.le_trans h.size k.size, fun i hi hn =>
    (k.2.2.2.2 i (Nat.lt_of_lt_of_le hi h.size) (fun ho => (hs i ho).elim hn (fun hge => by omega))).trans (h.2.2.2.2 i hi hn)⟩
theorem Only.then_below (h : Only own W W1) (k : Below W1.heap.size W1 W2) : Only own W W2 := h.trans (Only.of_below k own) fun _ h => .inl h
theorem Only.of_grown {row : Option Nat} (h : W.grownBy W1 row) (hr : ∀ g, row = some g → own g) : Only own W W1 :=
  ⟨h.os, h.tape, h.output, h.size, fun i hi hn => h.block i hi (fun e => hn (hr i e.symm))⟩
theorem Only.mono (h : Only own W W1) (hs : ∀ i, own i → own1 i ∨ W.heap.size ≤ i) : Only own1 W W1 := (Only.refl own1 W).trans h hs
theorem Only.below {B : Nat} (h : Only own W W1) (hB : B ≤ W.heap.size) (hs : ∀ i, own i → B ≤ i) : Below B W W1 :=
  ⟨h.1, h.2.1, h.2.2.1, h.size, fun i hi => h.2.2.2.2 i (by omega) (fun ho => by have := hs i ho; omega)⟩
theorem Only.blk {g : Nat} {t : TypeId} {cs : Array Value} (h : Only own W W1) (hb : Blk W g t cs) (hn : ¬ own g) : Blk W1 g t cs := (h.2.2.2.2 g hb.lt hn).trans hb
theorem Only.row {base : Nat} {e : TypeId} {size n : Nat} {v : Value} {xs : List Value} (h : Only own W W1) (hb : W.ownsRow base e size v n xs) (hn : ∀ g, v.ownBlock = some g → ¬ own g) : W1.ownsRow base e size v n xs := by
  refine ⟨hb.1, ?_⟩
  rcases hb.2 with hn' | ⟨g, cap, cur, rfl, hbb, hgg, rest⟩
  · exact .inl hn'
  · exact .inr ⟨g, cap, cur, rfl, hbb, (h.2.2.2.2 g (Array.getElem?_eq_some_iff.1 hgg).1 (hn g rfl)).trans hgg, rest⟩
end

theorem own_below {w w' : World} {base : Nat} {e : TypeId} {size n : Nat} {v : Value} {xs : List Value} (h : w.ownsRow base e size v n xs) (hb : Below w.heap.size w w') : w'.ownsRow base e size v n xs :=
  h.kept (row := none) ⟨hb.os, hb.tape, hb.output, hb.size, fun i hi _ => hb.block i hi⟩ (by cases v.ownBlock <;> simp)

/-- The cells of a place; of the first n places. -/
def plC : Pl → List Value
  | none => [.int .i64 0, .int .i64 0, .int .i64 0, .int .i64 0, .bool false]
  | some x => [.int .i64 x.1.1, .int .i64 x.1.2.1, .int .i64 x.1.2.2, .int .i64 x.2, .bool true]
def placesC (T : Nat → Pl) : Nat → List Value
  | 0 => []
  | n + 1 => placesC T n ++ plC (T n)
theorem plC_len (p : Pl) : (plC p).length = 5 := by cases p <;> rfl
theorem placesC_len (T : Nat → Pl) : ∀ n, (placesC T n).length = n * 5
  | 0 => rfl
  | n + 1 => by show (placesC T n ++ _).length = _; rw [List.length_append, placesC_len T n, plC_len]; omega
theorem placesC_at (T : Nat → Pl) {s i : Nat} (hi : i < 5) : ∀ {n : Nat}, s < n → (placesC T n)[s * 5 + i]? = (plC (T s))[i]?
  | 0, h => absurd h (by omega)
  | n + 1, h => by
    show (placesC T n ++ plC (T n))[s * 5 + i]? = _
    by_cases e : s < n
    · rw [List.getElem?_append_left (by rw [placesC_len]; omega)]
      exact placesC_at T hi e
    · obtain rfl : s = n := by omega
      rw [List.getElem?_append_right (by rw [placesC_len]; omega), placesC_len]
      congr 1
      omega
theorem placesC_congr {T T' : Nat → Pl} : ∀ {n : Nat}, (∀ s, s < n → T' s = T s) → placesC T' n = placesC T n
  | 0, _ => rfl
  | n + 1, h => by
    show placesC T' n ++ plC (T' n) = placesC T n ++ plC (T n)
    rw [placesC_congr (n := n) (fun s hs => h s (by omega)), h n (by omega)]

/-- A memo's memory: block p; and block g, its places. -/
structure MemoR (W : World) (p g n c : Nat) (T : Nat → Pl) : Prop where
  blk : Blk W p 48 #[.slice (some ⟨g, 0, none⟩) n c, .int .i64 (lenP T n : Nat)]
  row : W.ownsRow 0 51 5 (.slice (some ⟨g, 0, none⟩) n c) n (placesC T n)
  room : 0 < n ∧ n ≤ 65536
section
variable {W W' : World} {p g n c : Nat} {T : Nat → Pl}
theorem MemoR.c0 (h : MemoR W p g n c T) : W.cell? ⟨p, 0, none⟩ = some (.slice (some ⟨g, 0, none⟩) n c) := h.blk.cell 0
theorem MemoR.c1 (h : MemoR W p g n c T) : W.cell? ⟨p, 1, none⟩ = some (.int .i64 (lenP T n : Nat)) := h.blk.cell 1
theorem row_lt {base n c g : Nat} {e : TypeId} {size : Nat} {xs : List Value} (h : W.ownsRow base e size (.slice (some ⟨g, 0, none⟩) n c) n xs) : g < W.heap.size ∧ n ≤ c := by
  rcases h.2 with ⟨h', h0⟩ | ⟨g', cap, cur, h', _, hg, hc, _⟩
  · cases h'
  · injection h' with h1 _ h2
    injection h1 with h1
    injection h1 with h1
    subst h2
    exact ⟨h1 ▸ (Array.getElem?_eq_some_iff.1 hg).1, hc⟩
theorem MemoR.gp (h : MemoR W p g n c T) : g ≠ p := fun e => own_blk_ne h.row h.blk (by decide) (by rw [e]; rfl)
theorem MemoR.glt (h : MemoR W p g n c T) : g < W.heap.size := (row_lt h.row).1
theorem MemoR.below (h : MemoR W p g n c T) (hb : Below W.heap.size W W') : MemoR W' p g n c T :=
  ⟨h.blk.below hb h.blk.lt, own_below h.row hb, h.room⟩
/-- What stands under p and g is not touched. -/
theorem MemoR.only {own : Nat → Prop} (h : MemoR W p g n c T) (ho : Only own W W') (hp : ¬ own p) (hg : ¬ own g) : MemoR W' p g n c T :=
  ⟨ho.blk h.blk hp, ho.row h.row (fun k e => (show g = k by simpa [Value.ownBlock] using e) ▸ hg), h.room⟩
/-- The cells of a place. -/
theorem MemoR.place (h : MemoR W p g n c T) {s i : Nat} (hs : s < n) (hi : i < 5) : W.cell? ⟨g, s * 5 + i, none⟩ = (plC (T s))[i]? ∧ W.frozen? ⟨g, s * 5 + i, none⟩ = false := by
  refine ⟨?_, h.row.frozenAt _⟩
  rw [h.row.cellAt _ (by omega)]
  exact placesC_at T hi hs
end
end Go.Proofs.Ytchipmiklbnedab
