/- The contract of the law's put: a point, with another number in one place. -/
import Derived.Test.YtlkbapcienjdcaaDoorGRef
import Derived.Test.YtlkbapcienjdcaaDoorGMoves
namespace Go.Proofs.YtlkbapcienjdcaaDoor
open Go.RowKit
attribute [local go_sem ↓] Go.wp_at_zero Go.wp_at_succ

/-- The numbers, as values. -/
def nums (n : Nat) (f : Nat → Int) : List Value := (List.range n).map fun k => .int .i64 (f k)
theorem nums_at {n k : Nat} (f : Nat → Int) (h : k < n) : (nums n f)[k]? = some (.int .i64 (f k)) := by
  unfold nums
  rw [List.getElem?_map, List.getElem?_range h]
  rfl
theorem nums_len (n : Nat) (f : Nat → Int) : (nums n f).length = n := by unfold nums; simp
theorem nums_one (n : Nat) (f : Nat → Int) : ∀ u ∈ nums n f, u.oneCell' = true := fun u hu => by
  unfold nums at hu
  obtain ⟨x, -, rfl⟩ := List.mem_map.1 hu
  rfl
/-- A point that is read. -/
def PtAt (W : World) (b off n : Nat) (f : Nat → Int) : Prop := b < W.heap.size ∧ ∀ k, k < n → W.cell? ⟨b, off + k, none⟩ = some (.int .i64 (f k))
theorem PtAt.below {W W1 : World} {b off n : Nat} {f : Nat → Int} (h : PtAt W b off n f) (hb : Below W.heap.size W W1) : PtAt W1 b off n f :=
  ⟨Nat.lt_of_lt_of_le h.1 hb.size, fun k hk => (hb.cell (p := ⟨b, off + k, none⟩) h.1).trans (h.2 k hk)⟩
theorem PtAt.row {W : World} {b off n c : Nat} {f : Nat → Int} (h : PtAt W b off n f) : RowAt W (.slice (some ⟨b, off, none⟩) n c) n (nums n f) :=
  .inr ⟨⟨b, off, none⟩, c, rfl, fun j u hj => by
    have hl : j < n := by
      have := (List.getElem?_eq_some_iff.1 hj).1
      rw [nums_len] at this
      exact this
    rw [nums_at f hl] at hj
    injection hj with hj
    subst hj
    rw [Addr.add_lit]
    exact h.2 j hl⟩
theorem ptAt_own {W : World} {base n c g : Nat} {f : Nat → Int} (h : W.ownsRow base 3 1 (.slice (some ⟨g, 0, none⟩) n c) n (nums n f)) : PtAt W g 0 n f :=
  ⟨(h.lt g rfl).2, fun k hk => by
    have := h.cellAt k (by omega)
    rw [Nat.zero_add, this, nums_at f hk]⟩
/-- Another number in one place. -/
def putF (f : Nat → Int) (t : Nat) (x : Int) : Nat → Int := fun k => if k = t then x else f k
theorem vof_put (f : Nat → Int) (t : Nat) (x : Int) : vof (putF f t x) = at1 (vof f) (t + 1) x := by
  funext a
  show (if a = 0 then 0 else if a - 1 = t then x else f (a - 1)) = if a = t + 1 then x else if a = 0 then 0 else f (a - 1)
  by_cases h : a = 0
  · rw [if_pos h, if_neg (by omega), if_pos h]
  · rw [if_neg h]
    by_cases h2 : a = t + 1
    · rw [if_pos (by omega), if_pos h2]
    · rw [if_neg (by omega), if_neg h2, if_neg h]
theorem nums_set {n t : Nat} (f : Nat → Int) (x : Int) : (nums n f).set t (.int .i64 x) = nums n (putF f t x) := by
  apply List.ext_getElem?
  intro k
  rw [List.getElem?_set, nums_len]
  by_cases hk : k < n
  · rw [nums_at (putF f t x) hk]
    by_cases h : t = k
    · subst h
      rw [if_pos rfl, if_pos hk, show putF f t x t = x from if_pos rfl]
    · rw [if_neg h, nums_at _ hk, show putF f t x k = f k from if_neg (fun e => h e.symm)]
  · have h1 : (nums n f)[k]? = none := List.getElem?_eq_none (by rw [nums_len]; omega)
    have h2 : (nums n (putF f t x))[k]? = none := List.getElem?_eq_none (by rw [nums_len]; omega)
    rw [h1, h2]
    split
    · rw [if_neg (by omega)]
    · rfl
/-- A row of n numbers of its own is handed back. -/
def RetRow (w : World) (n : Nat) (f : Nat → Int) (e : Ending) (w' : World) : Prop := ∃ g c, e = .returned (.slice (some ⟨g, 0, none⟩) n c) ∧ w'.ownsRow w.heap.size 3 1 (.slice (some ⟨g, 0, none⟩) n c) n (nums n f) ∧ Below w.heap.size w w'
end Go.Proofs.YtlkbapcienjdcaaDoor
