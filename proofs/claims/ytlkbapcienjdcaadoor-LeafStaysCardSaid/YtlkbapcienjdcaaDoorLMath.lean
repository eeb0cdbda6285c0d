/- The leaf layer: what follows from what a table holds. -/
import Derived.Test.YtlkbapcienjdcaaDoorLAlive
import Derived.Test.YtlkbapcienjdcaaDoorLTop
namespace Go.Proofs.YtlkbapcienjdcaaDoor
open Go.RowKit
section
variable {B p bm m lim : Nat} {v : Value} {L L' K : List Lz} {W : World} {x y : Lz} {i j : Nat} {R S : Option Mat}
theorem idx_at (h : LTab B p bm v m lim L K W) (hx : L[i]? = some x) : idx m L (textZ m x.1) = some (i : Int) := by
  rcases idx_cases m L (textZ m x.1) with ⟨_, h2⟩ | ⟨j, h1, _, y, hy, e⟩
  · exact absurd rfl (h2 x (List.mem_of_getElem? hx))
  · rw [h1, h.apart j i y x hy hx e]
theorem same_text (h : sameO m m R S = true) : textZ m R = textZ m S := by
  cases R <;> cases S <;> simp [sameO] at h
  · rfl
  · show Lib.join _ _ = Lib.join _ _
    rw [h]
theorem same_not (h : LTab B p bm v m lim L K W) (hx : L[i]? = some x) (hy : L[j]? = some y) (hij : i ≠ j) : sameO m m x.1 y.1 = false := by
  cases q : sameO m m x.1 y.1
  · rfl
  · exact absurd (h.apart i j x y hx hy (same_text q)) hij
theorem at_of (hx : L[i]? = some x) : hasN L.length (i : Int) = true ∧ (if hasN L.length (i : Int) = true then (L[(i : Int).toNat]?.map Prod.fst).getD none else none) = x.1 := by
  have hi : i < L.length := (List.getElem?_eq_some_iff.1 hx).1
  have h : hasN L.length (i : Int) = true := by unfold hasN; simp; omega
  refine ⟨h, ?_⟩
  rw [if_pos h, Int.toNat_natCast, hx]
  rfl
theorem putO_len {a b : Int} (h : PutO m lim L R L' a b) (hl : L.length ≤ lim) : L'.length ≤ lim := by
  rcases h with ⟨_, rfl, _⟩ | ⟨_, _, rfl, _⟩ | ⟨_, h1, ⟨A, c, rfl⟩, _⟩
  · exact hl
  · exact hl
  · simp; omega
theorem doO_len {a b : Int} {q : Option Mat ⊕ Int} (h : DoO m lim L q L' a b) (hl : L.length ≤ lim) : L'.length ≤ lim := by
  cases q with
  | inl R => exact putO_len h hl
  | inr e => obtain ⟨rfl, _⟩ := h; exact hl
theorem putO_more {a b : Int} (h : PutO m lim L R L' a b) : L'.length ≤ L.length + 1 ∧ ∃ r, L' = L ++ r := by
  rcases h with ⟨_, rfl, _⟩ | ⟨_, _, rfl, _⟩ | ⟨_, h1, ⟨A, c, rfl⟩, _⟩
  · exact ⟨Nat.le_succ _, [], by simp⟩
  · exact ⟨Nat.le_succ _, [], by simp⟩
  · exact ⟨by simp, _, rfl⟩
theorem doO_more {a b : Int} {q : Option Mat ⊕ Int} (h : DoO m lim L q L' a b) : L'.length ≤ L.length + 1 ∧ ∃ r, L' = L ++ r := by
  cases q with
  | inl R => exact putO_more h
  | inr e => obtain ⟨rfl, _⟩ := h; exact ⟨Nat.le_succ _, [], by simp⟩
end
end Go.Proofs.YtlkbapcienjdcaaDoor
