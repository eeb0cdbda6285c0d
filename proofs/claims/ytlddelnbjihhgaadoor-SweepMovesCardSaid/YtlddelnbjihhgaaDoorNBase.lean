/- Nodes: words for memory, and what an arena is. -/
import Derived.Test.YtlddelnbjihhgaaDoorProg
import Derived.Test.YtlddelnbjihhgaaDoorNMath
import Derived.Below
import Derived.Laws.OwnMore
import Derived.Deep.AppendLies
import Derived.Deep.Draws
import Derived.Laws.Rows
import Derived.Laws.AppendOwn
import Derived.WalkKit
import Derived.WalkSpells
import Derived.IntWalk
import Derived.Outline
import Derived.Lib.Hide
import Derived.Deep.RegionHeld3
import Derived.Deep.DrawnRows
import Derived.Deep.RegionWith
import Derived.Deep.DeepCutAuto
import Derived.BigRegion
import Derived.Deep.QuietTactic
import Derived.BigQuiet
namespace Go.Proofs.YtlddelnbjihhgaaDoor
open Go.RowKit

/-! ### The guide's words for a block that is known whole -/
def Blk (w : World) (g : Nat) (t : TypeId) (cs : Array Value) : Prop := w.heap[g]? = some (.cells cs t (0, 0))
section
variable {w w' : World} {g : Nat} {t : TypeId} {cs : Array Value}
theorem Blk.lt (h : Blk w g t cs) : g < w.heap.size := by
  rcases Nat.lt_or_ge g w.heap.size with hlt | hge
  · exact hlt
  · unfold Blk at h; rw [Array.getElem?_eq_none hge] at h; cases h
theorem Blk.cell (h : Blk w g t cs) (i : Nat) : w.cell? ⟨g, i, none⟩ = cs[i]? := cell_of_row w g i cs t (0, 0) h
theorem Blk.frozen (h : Blk w g t cs) (i : Nat) : w.frozen? ⟨g, i, none⟩ = false := by
  unfold Blk at h
  simp [World.frozen?, h]
theorem Blk.new (w : World) (t : TypeId) (cs : Array Value) : Blk (w.alloc (.cells cs t)) w.heap.size t cs := heap_alloc_new w _
theorem Blk.set_ (h : Blk w g t cs) (i : Nat) (u : Value) : Blk (w.setCell ⟨g, i, none⟩ u) g t (cs.setIfInBounds i u) := by
  unfold Blk at h ⊢
  simp [World.setCell, Array.getElem?_modify, h]
theorem Blk.far (h : Blk w g t cs) {p : Addr} (hp : g ≠ p.block) (u : Value) : Blk (w.setCell p u) g t cs := (Below.heap_setCell w p u g hp).trans h
theorem Blk.below {B : Nat} (h : Blk w g t cs) (hb : Below B w w') (hg : g < B) : Blk w' g t cs := (hb.block g hg).trans h
theorem Blk.grown {row : Option Nat} (h : Blk w g t cs) (hb : w.grownBy w' row) (hg : some g ≠ row) : Blk w' g t cs := (hb.block g h.lt hg).trans h
theorem Blk.ne_ {g' : Nat} {t' : TypeId} {cs' : Array Value} (h : Blk w g t cs) (h' : Blk w g' t' cs') (hne : t ≠ t') : g ≠ g' := by
  rintro rfl
  unfold Blk at h h'
  rw [h] at h'
  injection h' with h'
  injection h' with _ ht
  exact hne ht
theorem own_blk_ne {base : Nat} {e : TypeId} {size n : Nat} {v : Value} {xs : List Value} (h : w.ownsRow base e size v n xs) (hg : Blk w g t cs) (hne : e ≠ t) : v.ownBlock ≠ some g := by
  rcases h.2 with ⟨rfl, _⟩ | ⟨g', cap, cur, rfl, _, hh, _⟩
  · simp [Value.ownBlock]
  · intro he
    have : g' = g := by simpa [Value.ownBlock] using he
    subst this
    exact Blk.ne_ (t := e) hh hg hne rfl
end

/-- Only blocks of 'own', and new ones, are other than they were. -/
def Only (own : Nat → Prop) (W W' : World) : Prop := W'.os = W.os ∧ W'.tape = W.tape ∧ W'.output = W.output ∧ W.heap.size ≤ W'.heap.size ∧ ∀ i, i < W.heap.size → ¬ own i → W'.heap[i]? = W.heap[i]?
section
variable {W W1 W2 : World} {own own1 : Nat → Prop}
theorem Only.refl (own : Nat → Prop) (W : World) : Only own W W := ⟨rfl, rfl, rfl, Nat.le_refl _, fun _ _ _ => rfl⟩
theorem Only.size (h : Only own W W1) : W.heap.size ≤ W1.heap.size := h.2.2.2.1
theorem Only.of_below (h : Below W.heap.size W W1) (own : Nat → Prop) : Only own W W1 := ⟨h.os, h.tape, h.output, h.size, fun i hi _ => h.block i hi⟩
/-- One behind the other: what the second one writes lies in 'own', or is new since the start. -/
theorem Only.trans (h : Only own W W1) (k : Only own1 W1 W2) (hs : ∀ i, own1 i → own i ∨ W.heap.size ≤ i) : Only own W W2 :=
  ⟨k.1.trans h.1, k.2.1.trans h.2.1, k.2.2.1.trans h.2.2.1, Nat.le_trans h.size k.size, fun i hi hn =>
    (k.2.2.2.2 i (Nat.lt_of_lt_of_le hi h.size) (fun ho => (hs i ho).elim hn (fun hge => by omega))).trans (h.2.2.2.2 i hi hn)⟩
theorem Only.then_below (h : Only own W W1) (k : Below W1.heap.size W1 W2) : Only own W W2 := h.trans (Only.of_below k own) fun _ h => .inl h
theorem Only.of_grown {row : Option Nat} (h : W.grownBy W1 row) (hr : ∀ g, row = some g → own g) : Only own W W1 :=
  ⟨h.os, h.tape, h.output, h.size, fun i hi hn => h.block i hi (fun e => hn (hr i e.symm))⟩
theorem Only.mono (h : Only own W W1) (hs : ∀ i, own i → own1 i ∨ W.heap.size ≤ i) : Only own1 W W1 := (Only.refl own1 W).trans h hs
theorem Only.below {B : Nat} (h : Only own W W1) (hB : B ≤ W.heap.size) (hs : ∀ i, own i → B ≤ i) : Below B W W1 :=
  ⟨h.1, h.2.1, h.2.2.1, h.size, fun i hi => h.2.2.2.2 i (by omega) (fun ho => by have := hs i ho; omega)⟩
theorem Only.blk {g : Nat} {t : TypeId} {cs : Array Value} (h : Only own W W1) (hb : Blk W g t cs) (hn : ¬ own g) : Blk W1 g t cs := (h.2.2.2.2 g hb.lt hn).trans hb
theorem Only.row {base : Nat} {e : TypeId} {size n : Nat} {v : Value} {xs : List Value} (h : Only own W W1) (hb : W.ownsRow base e size v n xs) (hn : ∀ g, v.ownBlock = some g → ¬ own g) : W1.ownsRow base e size v n xs := by
  refine ⟨hb.1, ?_⟩
  rcases hb.2 with hn' | ⟨g, cap, cur, rfl, hbb, hgg, rest⟩
  · exact .inl hn'
  · exact .inr ⟨g, cap, cur, rfl, hbb, (h.2.2.2.2 g (Array.getElem?_eq_some_iff.1 hgg).1 (hn g rfl)).trans hgg, rest⟩
end

theorem own_below {w w' : World} {base : Nat} {e : TypeId} {size n : Nat} {v : Value} {xs : List Value} (h : w.ownsRow base e size v n xs) (hb : Below w.heap.size w w') : w'.ownsRow base e size v n xs :=
  h.kept (row := none) ⟨hb.os, hb.tape, hb.output, hb.size, fun i hi _ => hb.block i hi⟩ (by cases v.ownBlock <;> simp)

/-- The cells of a row of nodes, and of a table of places. -/
def cellsL (L : List Nd) : List Value := L.flatMap fun x => [.int .i64 x.1, .int .i64 x.2.1, .int .i64 x.2.2]
def placesL (P : Nat) (T : Nat → Nat) : List Value := (List.range P).map fun s => .int .i64 (T s : Int)
theorem cellsL_len (L : List Nd) : (cellsL L).length = L.length * 3 := by
  unfold cellsL
  induction L with
  | nil => rfl
  | cons x L ih => rw [List.flatMap_cons, List.length_append, ih]; simp; omega
theorem cellsL_snoc (L : List Nd) (x : Nd) : cellsL (L ++ [x]) = cellsL L ++ [.int .i64 x.1, .int .i64 x.2.1, .int .i64 x.2.2] := by
  unfold cellsL; rw [List.flatMap_append]; simp
theorem cellsL_at {L : List Nd} {k : Nat} {x : Nd} (h : L[k]? = some x) : (cellsL L)[k * 3]? = some (.int .i64 x.1) ∧ (cellsL L)[k * 3 + 1]? = some (.int .i64 x.2.1) ∧ (cellsL L)[k * 3 + 2]? = some (.int .i64 x.2.2) := by
  unfold cellsL
  induction L generalizing k with
  | nil => simp at h
  | cons y L ih =>
    rw [List.flatMap_cons]
    cases k with
    | zero => simp at h; subst h; simp
    | succ k =>
      rw [List.getElem?_cons_succ] at h
      obtain ⟨h1, h2, h3⟩ := ih h
      have e0 : (k + 1) * 3 = k * 3 + 3 := by omega
      rw [e0]
      refine ⟨?_, ?_, ?_⟩
      · rw [List.getElem?_append_right (by simp)]; simpa using h1
      · rw [List.getElem?_append_right (by simp <;> omega)]
        have : k * 3 + 3 + 1 - [Value.int .i64 y.1, .int .i64 y.2.1, .int .i64 y.2.2].length = k * 3 + 1 := by simp
        rw [this]; exact h2
      · rw [List.getElem?_append_right (by simp <;> omega)]
        have : k * 3 + 3 + 2 - [Value.int .i64 y.1, .int .i64 y.2.1, .int .i64 y.2.2].length = k * 3 + 2 := by simp
        rw [this]; exact h3
theorem placesL_len (P : Nat) (T : Nat → Nat) : (placesL P T).length = P := by simp [placesL]
theorem placesL_at {P s : Nat} (T : Nat → Nat) (h : s < P) : (placesL P T)[s]? = some (.int .i64 (T s : Int)) := by
  unfold placesL; rw [List.getElem?_map, List.getElem?_range h]; rfl
theorem placesL_put {P s v : Nat} (T : Nat → Nat) (h : s < P) : (placesL P T).set s (.int .i64 (v : Int)) = placesL P (putT T s v) := by
  apply List.ext_getElem?
  intro i
  rw [List.getElem?_set]
  by_cases hi : i < P
  · rw [placesL_at _ hi]
    by_cases e : s = i
    · subst e
      rw [if_pos rfl, placesL_len, if_pos hi, placesL_at _ hi, putT_same]
    · rw [if_neg e, placesL_at _ hi, putT_other T (fun h => e h.symm)]
  · have e1 : (placesL P (putT T s v))[i]? = none := List.getElem?_eq_none (by rw [placesL_len]; omega)
    have e2 : (placesL P T)[i]? = none := List.getElem?_eq_none (by rw [placesL_len]; omega)
    rw [e1, e2, if_neg (by omega)]

/-- An arena's memory: block p, the row of its nodes, the table of its places; all its blocks are among 'own'. -/
structure ArenaR (W : World) (own : Nat → Prop) (p lim : Nat) (L : List Nd) (P : Nat) (T : Nat → Nat) (An Ap : Option Addr) (cn cp : Nat) : Prop where
  blk : Blk W p 131 #[.int .i64 lim, .slice An L.length cn, .slice Ap P cp]
  mine : own p
  mineN : ∀ g, (Value.slice An L.length cn).ownBlock = some g → own g
  mineP : ∀ g, (Value.slice Ap P cp).ownBlock = some g → own g
  old : ∀ i, own i → i < W.heap.size
  rowN : W.ownsRow 0 106 3 (.slice An L.length cn) L.length (cellsL L)
  rowP : W.ownsRow 0 3 1 (.slice Ap P cp) P (placesL P T)
  limit : lim ≤ 9223372036854775807
  few : L.length ≤ 4000
  room : P ≤ 20000
section
variable {W W' : World} {own : Nat → Prop} {p lim P cn cp : Nat} {L : List Nd} {T : Nat → Nat} {An Ap : Option Addr}
theorem ArenaR.c0 (h : ArenaR W own p lim L P T An Ap cn cp) : W.cell? ⟨p, 0, none⟩ = some (.int .i64 lim) := h.blk.cell 0
theorem ArenaR.c1 (h : ArenaR W own p lim L P T An Ap cn cp) : W.cell? ⟨p, 1, none⟩ = some (.slice An L.length cn) := h.blk.cell 1
theorem ArenaR.c2 (h : ArenaR W own p lim L P T An Ap cn cp) : W.cell? ⟨p, 2, none⟩ = some (.slice Ap P cp) := h.blk.cell 2
theorem ArenaR.below (h : ArenaR W own p lim L P T An Ap cn cp) (hb : Below W.heap.size W W') : ArenaR W' own p lim L P T An Ap cn cp :=
  ⟨h.blk.below hb h.blk.lt, h.mine, h.mineN, h.mineP, fun i hi => Nat.lt_of_lt_of_le (h.old i hi) hb.size, own_below h.rowN hb, own_below h.rowP hb, h.limit, h.few, h.room⟩
theorem row_at {base n c : Nat} {e : TypeId} {size : Nat} {A : Option Addr} {xs : List Value} (h : W.ownsRow base e size (.slice A n c) n xs) (hn : 0 < n) : ∃ g, A = some ⟨g, 0, none⟩ ∧ g < W.heap.size ∧ n ≤ c := by
  rcases h.2 with ⟨h', h0⟩ | ⟨g, cap, cur, h', _, hg, hc, _⟩
  · omega
  · injection h' with h1 _ h2
    subst h2
    exact ⟨g, h1, (Array.getElem?_eq_some_iff.1 hg).1, hc⟩
/-- The cells of a node. -/
theorem ArenaR.node (h : ArenaR W own p lim L P T An Ap cn cp) {k : Nat} {x : Nd} (hx : L[k]? = some x) :
    ∃ g, An = some ⟨g, 0, none⟩ ∧ k < L.length ∧ W.cell? ⟨g, k * 3, none⟩ = some (.int .i64 x.1) ∧ W.cell? ⟨g, k * 3 + 1, none⟩ = some (.int .i64 x.2.1) ∧ W.cell? ⟨g, k * 3 + 2, none⟩ = some (.int .i64 x.2.2) := by
  have hk := get_len hx
  obtain ⟨g, rfl, hg, hc⟩ := row_at h.rowN (by omega)
  obtain ⟨h1, h2, h3⟩ := cellsL_at hx
  refine ⟨g, rfl, hk, ?_, ?_, ?_⟩
  · rw [h.rowN.cellAt _ (by omega)]; exact h1
  · rw [h.rowN.cellAt _ (by omega)]; exact h2
  · rw [h.rowN.cellAt _ (by omega)]; exact h3
theorem ArenaR.place (h : ArenaR W own p lim L P T An Ap cn cp) {s : Nat} (hs : s < P) : ∃ g, Ap = some ⟨g, 0, none⟩ ∧ W.cell? ⟨g, s, none⟩ = some (.int .i64 (T s : Int)) := by
  obtain ⟨g, rfl, hg, hc⟩ := row_at h.rowP (by omega)
  refine ⟨g, rfl, ?_⟩
  rw [h.rowP.cellAt _ (by omega)]; exact placesL_at T hs
end
end Go.Proofs.YtlddelnbjihhgaaDoor
