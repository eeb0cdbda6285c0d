/- The leaf layer: a table, and what it holds. -/
import Derived.Test.YtlkbapcienjdcaaDoorLMap
import Derived.Test.YtlkbapcienjdcaaDoorGText
import Derived.Test.YtlkbapcienjdcaaDoorLBlk
namespace Go.Proofs.YtlkbapcienjdcaaDoor
open Go.RowKit

/-- A zone that is held: its bounds, and where they lie. -/
abbrev Lz := Option Mat × Option Addr × Nat
/-- The cells of the zones that are held. -/
def zcells (m : Nat) (L : List Lz) : List Value := L.flatMap fun x => [.int .i64 ((m : Int) - 1), .slice x.2.1 (rlen m x.1) x.2.2]
/-- The number of the zone with some sign. -/
def idx (m : Nat) (L : List Lz) : List UInt8 → Option Int := fun k => Option.map (fun i : Nat => (i : Int)) (L.findIdx? fun x => textZ m x.1 == k)
section
variable {m : Nat} {L : List Lz} {x : Lz} {k : List UInt8}
theorem zcells_len (m : Nat) (L : List Lz) : (zcells m L).length = L.length * 2 := by
  induction L with
  | nil => rfl
  | cons x L ih =>
    have : zcells m (x :: L) = [.int .i64 ((m : Int) - 1), .slice x.2.1 (rlen m x.1) x.2.2] ++ zcells m L := rfl
    rw [this, List.length_append, ih, List.length_cons]
    simp; omega
theorem zcells_snoc (m : Nat) (L : List Lz) (x : Lz) : zcells m (L ++ [x]) = zcells m L ++ [.int .i64 ((m : Int) - 1), .slice x.2.1 (rlen m x.1) x.2.2] := by simp [zcells]
theorem zcells_at {i : Nat} (h : L[i]? = some x) : (zcells m L)[i * 2]? = some (.int .i64 ((m : Int) - 1)) ∧ (zcells m L)[i * 2 + 1]? = some (.slice x.2.1 (rlen m x.1) x.2.2) := by
  induction L generalizing i with
  | nil => simp at h
  | cons y L ih =>
    have e : zcells m (y :: L) = .int .i64 ((m : Int) - 1) :: .slice y.2.1 (rlen m y.1) y.2.2 :: zcells m L := rfl
    rw [e]
    cases i with
    | zero => simp at h; subst h; exact ⟨rfl, rfl⟩
    | succ i =>
      rw [show (i + 1) * 2 = i * 2 + 1 + 1 by omega]
      simp only [List.getElem?_cons_succ] at h ⊢
      exact ih h
theorem idx_none (h : ∀ x, x ∈ L → textZ m x.1 ≠ k) : idx m L k = none := by
  unfold idx
  rw [List.findIdx?_eq_none_iff.2 fun x hx => by simpa using h x hx]; rfl
theorem idx_snoc (x : Lz) (h : ∀ y, y ∈ L → textZ m y.1 ≠ textZ m x.1) : putS (idx m L) (textZ m x.1) (L.length : Int) = idx m (L ++ [x]) := by
  funext k
  unfold putS
  by_cases e : k = textZ m x.1
  · subst e
    rw [if_pos rfl]
    unfold idx
    rw [List.findIdx?_append, List.findIdx?_eq_none_iff.2 fun y hy => by simpa using h y hy]
    simp [List.findIdx?_cons]
  · rw [if_neg e]
    unfold idx
    rw [List.findIdx?_append]
    have : (List.findIdx? (fun x => textZ m x.1 == k) [x]) = none := by simp [List.findIdx?_cons]; exact fun q => e q.symm
    rw [this]
    simp
theorem idx_some {i : Nat} (h : idx m L k = some (i : Int)) : ∃ x, L[i]? = some x ∧ textZ m x.1 = k := by
  unfold idx at h
  cases q : L.findIdx? fun x => textZ m x.1 == k with
  | none => rw [q] at h; simp at h
  | some j =>
    rw [q] at h
    simp only [Option.map_some, Option.some.injEq] at h
    obtain rfl : i = j := by omega
    obtain ⟨hj, hx, -⟩ := List.findIdx?_eq_some_iff_getElem.1 q
    exact ⟨L[i], List.getElem?_eq_getElem hj, by simpa using hx⟩
theorem idx_cases (m : Nat) (L : List Lz) (k : List UInt8) : (idx m L k = none ∧ ∀ x, x ∈ L → textZ m x.1 ≠ k) ∨ ∃ i : Nat, idx m L k = some (i : Int) ∧ i < L.length ∧ ∃ x, L[i]? = some x ∧ textZ m x.1 = k := by
  cases q : idx m L k with
  | none =>
    refine .inl ⟨rfl, fun x hx e => ?_⟩
    unfold idx at q
    simp only [Option.map_eq_none_iff, List.findIdx?_eq_none_iff] at q
    have := q x hx
    simp [e] at this
  | some z =>
    have q' := q
    unfold idx at q'
    cases r : L.findIdx? fun x => textZ m x.1 == k with
    | none => rw [r] at q'; simp at q'
    | some i =>
      rw [r] at q'
      simp only [Option.map_some, Option.some.injEq] at q'
      subst q'
      obtain ⟨x, hx, e⟩ := idx_some q
      exact .inr ⟨i, rfl, (List.getElem?_eq_some_iff.1 hx).1, x, hx, e⟩
end
/-- A table, at block p; all that is its own lies from B on. L: what is held; K: whose signs are known. -/
structure LTab (B p bm : Nat) (v : Value) (m lim : Nat) (L K : List Lz) (W : World) : Prop where
  hp : B ≤ p
  hb : B ≤ bm
  tb : Blk W p 51 #[.int .i64 ((m : Int) - 1), .int .i64 (lim : Int), v, .map (some bm)]
  ids : StrM W bm K.length (idx m K)
  row : W.ownsRow B 39 2 v L.length (zcells m L)
  zs : ∀ (i : Nat) (x : Lz), L[i]? = some x → ZRes W B m x.1 (zoneV ((m : Int) - 1) x.2.1 (rlen m x.1) x.2.2)
  apart : ∀ (i j : Nat) (x y : Lz), L[i]? = some x → L[j]? = some y → textZ m x.1 = textZ m y.1 → i = j
/-- What is done to a table changes no block but its own; what it has new is its own. -/
structure Sd (p bm : Nat) (v0 v : Value) (W0 W : World) : Prop where
  size : W0.heap.size ≤ W.heap.size
  kept : ∀ g, g < W0.heap.size → g ≠ p → g ≠ bm → v0.ownBlock ≠ some g → W.heap[g]? = W0.heap[g]?
  row : ∀ g, v.ownBlock = some g → v0.ownBlock = some g ∨ W0.heap.size ≤ g
section
variable {p bm : Nat} {v0 v v1 : Value} {W0 W W1 : World}
theorem Sd.refl (p bm : Nat) (v : Value) (W : World) : Sd p bm v v W W := ⟨Nat.le_refl _, fun _ _ _ _ _ => rfl, fun _ h => .inl h⟩
theorem Sd.below (h : Sd p bm v0 v W0 W) (hb : Below W.heap.size W W1) : Sd p bm v0 v W0 W1 :=
  ⟨Nat.le_trans h.size hb.size, fun g h1 h2 h3 h4 => (hb.block g (Nat.lt_of_lt_of_le h1 h.size)).trans (h.kept g h1 h2 h3 h4), h.row⟩
theorem Sd.before (h : Sd p bm v0 v W1 W) (hb : Below W0.heap.size W0 W1) : Sd p bm v0 v W0 W :=
  ⟨Nat.le_trans hb.size h.size, fun g h1 h2 h3 h4 => (h.kept g (Nat.lt_of_lt_of_le h1 hb.size) h2 h3 h4).trans (hb.block g h1), fun g hg => (h.row g hg).imp id (Nat.le_trans hb.size)⟩
theorem Sd.trans (h : Sd p bm v0 v W0 W) (k : Sd p bm v v1 W W1) : Sd p bm v0 v1 W0 W1 :=
  ⟨Nat.le_trans h.size k.size, fun g h1 h2 h3 h4 => (k.kept g (Nat.lt_of_lt_of_le h1 h.size) h2 h3 (fun e => by rcases h.row g e with q | q; exact h4 q; omega)).trans (h.kept g h1 h2 h3 h4),
   fun g hg => by rcases k.row g hg with q | q; exact h.row g q; exact .inr (Nat.le_trans h.size q)⟩
theorem Sd.grown {row : Option Nat} (h : Sd p bm v0 v W0 W) (hg : W.grownBy W1 row) (hr : ∀ g, row = some g → g = bm ∨ v0.ownBlock = some g ∨ W0.heap.size ≤ g) : Sd p bm v0 v W0 W1 :=
  ⟨Nat.le_trans h.size hg.size, fun g h1 h2 h3 h4 => (hg.block g (Nat.lt_of_lt_of_le h1 h.size) (fun e => by rcases hr g e.symm with q | q | q; exact h3 q; exact h4 q; omega)).trans (h.kept g h1 h2 h3 h4), h.row⟩
theorem Sd.put (h : Sd p bm v0 v W0 W) (i : Nat) (u : Value) (hu : ∀ g, v1.ownBlock = some g → v0.ownBlock = some g ∨ W0.heap.size ≤ g) : Sd p bm v0 v1 W0 (W.setCell ⟨p, i, none⟩ u) :=
  ⟨by simpa [World.setCell] using h.size, fun g h1 h2 h3 h4 => (Below.heap_setCell W ⟨p, i, none⟩ u g h2).trans (h.kept g h1 h2 h3 h4), hu⟩
end
/-- A block that is no row of numbers. -/
def NoInts (W : World) (g : Nat) : Prop := ∀ cs fr, W.heap[g]? ≠ some (.cells cs 3 fr)
section
variable {B p bm m lim base size n k : Nat} {v v1 z : Value} {L K : List Lz} {W W1 : World} {R : Option Mat} {t e : TypeId} {cs : Array Value} {xs : List Value} {g : List UInt8 → Option Int}
theorem LTab.below (h : LTab B p bm v m lim L K W) (hb : Below W.heap.size W W1) : LTab B p bm v m lim L K W1 :=
  ⟨h.hp, h.hb, h.tb.below hb h.tb.lt, h.ids.below hb h.ids.lt, own_kept_below h.row hb, fun i x hx => (h.zs i x hx).below hb, h.apart⟩
theorem blk_not_row (h : Blk W p t cs) (hte : t ≠ e) (hr : W.ownsRow base e size v n xs) : v.ownBlock ≠ some p := by
  rcases hr.2 with ⟨rfl, _⟩ | ⟨g, cap, cur, rfl, _, hgb, _⟩
  · simp [Value.ownBlock]
  · intro q
    obtain rfl : g = p := by simpa [Value.ownBlock] using q
    have := (show W.heap[g]? = _ from h).symm.trans hgb
    simp at this
    exact hte this.2
theorem map_not_row (h : StrM W bm k g) (hr : W.ownsRow base e size v n xs) : v.ownBlock ≠ some bm := by
  obtain ⟨D, ⟨es, clock, hh, r⟩, k⟩ := h
  rcases hr.2 with ⟨rfl, _⟩ | ⟨g, cap, cur, rfl, _, hgb, _⟩
  · simp [Value.ownBlock]
  · intro q
    obtain rfl : g = bm := by simpa [Value.ownBlock] using q
    have := hh.symm.trans hgb
    simp at this
theorem map_not_blk (h : StrM W bm k g) (hb : Blk W p t cs) : bm ≠ p := by
  rintro rfl
  obtain ⟨D, ⟨es, clock, hh, r⟩, k⟩ := h
  have := hh.symm.trans hb
  simp at this
theorem Blk.noInts (h : Blk W p t cs) (ht : t ≠ 3) : NoInts W p := fun cs fr e => by
  have := (show W.heap[p]? = _ from h).symm.trans e
  simp at this
  exact ht this.2.1
theorem StrM.noInts (h : StrM W bm k g) : NoInts W bm := fun cs fr e => by
  obtain ⟨D, ⟨es, clock, hh, r⟩, k⟩ := h
  have := hh.symm.trans e
  simp at this
theorem row_noInts (hr : W.ownsRow base e size v n xs) (he : e ≠ 3) (q : v.ownBlock = some p) : NoInts W p := fun cs fr h => by
  rcases hr.2 with ⟨rfl, _⟩ | ⟨g, cap, cur, rfl, _, hgb, _⟩
  · simp [Value.ownBlock] at q
  · obtain rfl : g = p := by simpa [Value.ownBlock] using q
    have := hgb.symm.trans h
    simp at this
    exact he this.2.1
theorem zres_grown {row : Option Nat} (hz : ZRes W base m R z) (hg : W.grownBy W1 row) (hr : ∀ q, row = some q → NoInts W q) : ZRes W1 base m R z := by
  cases R with
  | none => exact hz
  | some C =>
    obtain ⟨hc, g, cap, e, ho⟩ := hz
    refine ⟨hc, g, cap, e, ho.kept hg (.inr fun q => ?_)⟩
    rcases ho.2 with ⟨h1, _⟩ | ⟨g2, cap2, cur, h1, _, hgb, _⟩
    · simp at h1
    · simp only [Value.slice.injEq, Option.some.injEq, Addr.mk.injEq] at h1
      obtain ⟨⟨rfl, -, -⟩, -, -⟩ := h1
      exact hr g q.symm _ _ hgb
/-- A zone is laid into the row, and the row into the table. -/
theorem LTab.add {o : Obj} {A : Option Addr} {c : Nat} (h : LTab B p bm v m lim L K W) (hz : ZRes W B m R (zoneV ((m : Int) - 1) A (rlen m R) c)) (hn : ∀ y, y ∈ L → textZ m y.1 ≠ textZ m R)
    (ho : W1.ownsRow B 39 2 v1 (L.length + 1) (zcells m L ++ [.int .i64 ((m : Int) - 1), .slice A (rlen m R) c])) (hg : (W.alloc o).grownBy W1 v.ownBlock) :
    Blk W1 p 51 #[.int .i64 ((m : Int) - 1), .int .i64 (lim : Int), v, .map (some bm)] ∧ LTab B p bm v1 m lim (L ++ [(R, A, c)]) K (W1.setCell ⟨p, 2, none⟩ v1) := by
  have h1 := h.below (zboxed W o)
  have hz1 := hz.below (zboxed W o)
  have t1 := h1.tb.grown hg (blk_not_row h1.tb (by decide) h1.row).symm
  have m1 := h1.ids.kept hg (map_not_row h1.ids h1.row).symm
  have hg2 := duo_grown_setCell W1 ⟨p, 2, none⟩ v1
  have ht := t1.set_ 2 v1
  have hN : ∀ q, v.ownBlock = some q → NoInts (W.alloc o) q := fun q e => row_noInts h1.row (by decide) e
  have hP : ∀ q, some p = some q → NoInts W1 q := fun q e => by cases e; exact t1.noInts (by decide)
  refine ⟨t1, h.hp, h.hb, ht, m1.kept hg2 (by simpa using map_not_blk m1 t1), ?_, ?_, ?_⟩
  · rw [zcells_snoc, List.length_append]
    exact ho.kept hg2 (.inr (blk_not_row t1 (by decide) ho))
  · intro i x hx
    rcases Nat.lt_or_ge i L.length with hi | hi
    · rw [List.getElem?_append_left hi] at hx
      exact zres_grown (zres_grown (h1.zs i x hx) hg hN) hg2 hP
    · rw [List.getElem?_append_right hi] at hx
      obtain ⟨hi0, rfl⟩ : i - L.length = 0 ∧ (R, A, c) = x := by
        cases q : i - L.length with
        | zero => rw [q] at hx; simp at hx; exact ⟨rfl, hx⟩
        | succ r => rw [q] at hx; simp at hx
      exact zres_grown (zres_grown hz1 hg hN) hg2 hP
  · have key : ∀ (i : Nat) (x : Lz), (L ++ [(R, A, c)])[i]? = some x → (L[i]? = some x ∧ i < L.length) ∨ (i = L.length ∧ x.1 = R) := fun i x hx => by
      rcases Nat.lt_or_ge i L.length with hi | hi
      · rw [List.getElem?_append_left hi] at hx; exact .inl ⟨hx, hi⟩
      · rw [List.getElem?_append_right hi] at hx
        cases q : i - L.length with
        | zero => rw [q] at hx; simp at hx; exact .inr ⟨by omega, by rw [← hx]⟩
        | succ r => rw [q] at hx; simp at hx
    intro i j x y hx hy ht
    rcases key i x hx with ⟨a, _⟩ | ⟨a, a'⟩ <;> rcases key j y hy with ⟨b, _⟩ | ⟨b, b'⟩
    · exact h.apart i j x y a b ht
    · exact absurd (by rw [ht, b']) (hn x (List.mem_of_getElem? a))
    · exact absurd (by rw [← ht, a']) (hn y (List.mem_of_getElem? b))
    · omega
/-- The sign is noted. -/
theorem LTab.sign {x : Lz} (h : LTab B p bm v m lim (L ++ [x]) L W) (hn : ∀ y, y ∈ L → textZ m y.1 ≠ textZ m x.1) (hs : StrM W1 bm (L.length + 1) (putS (idx m L) (textZ m x.1) (L.length : Int))) (hg : W.grownBy W1 (some bm)) : LTab B p bm v m lim (L ++ [x]) (L ++ [x]) W1 := by
  have hP : ∀ q, some bm = some q → NoInts W q := fun q e => by cases e; exact h.ids.noInts
  refine ⟨h.hp, h.hb, h.tb.grown hg (by simpa using (map_not_blk h.ids h.tb).symm), ?_, h.row.kept hg (.inr (map_not_row h.ids h.row)), fun i y hy => zres_grown (h.zs i y hy) hg hP, h.apart⟩
  rw [idx_snoc x hn] at hs
  rw [List.length_append]
  exact hs
end
end Go.Proofs.YtlkbapcienjdcaaDoor
