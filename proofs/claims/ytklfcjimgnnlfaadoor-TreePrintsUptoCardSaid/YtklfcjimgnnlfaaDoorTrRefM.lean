/- The tree layer: the document's expression: has it what it must; its text. -/
import Derived.Test.YtklfcjimgnnlfaaDoorTrDig
namespace Go.Proofs.YtklfcjimgnnlfaaDoor
open Go.RowKit
def simpleO (o : ByteArray) : Bool := (o.toList == oNum) || ((o.toList == oName) || ((o.toList == oAt) || ((o.toList == oTrue) || (o.toList == oFalse))))
/-- How many parts an Op has. -/
def manyO (o : ByteArray) : Option Nat :=
  if (o.toList == oNum) || ((o.toList == oName) || ((o.toList == oTrue) || (o.toList == oFalse))) then some 0
  else if (o.toList == oAt) || ((o.toList == oNeg) || (o.toList == oNot)) then some 1
  else if ofTwoO o then some 2 else none
def headOk (o : ByteArray) (n : Int) (len : Nat) : Bool := (manyO o == some len) && !((o.toList == oNum) && decide (n < 0))
mutual
def wholeE : Ex → Bool
  | .mk o _ n l _ => headOk o n l.length && wholeL l
def wholeL : List Ex → Bool
  | [] => true
  | e :: r => wholeE e && wholeL r
end
theorem wholeE_X (x : Ex) : wholeE x = (headOk x.op x.n x.l.length && wholeL x.l) := by cases x; rfl
theorem wholeL_at {l : List Ex} {i : Nat} {x : Ex} (h : wholeL l = true) (hx : l[i]? = some x) : wholeE x = true := by
  induction l generalizing i with
  | nil => simp at hx
  | cons y l ih =>
    simp only [wholeL, Bool.and_eq_true] at h
    cases i with
    | zero => simp at hx; subst hx; exact h.1
    | succ i => exact ih h.2 (by simpa using hx)
theorem wholeL_take {l : List Ex} {k : Nat} {x : Ex} (h : l[k]? = some x) : wholeL (l.take (k + 1)) = (wholeL (l.take k) && wholeE x) := by
  rw [take_one h]
  generalize l.take k = r
  induction r with
  | nil => simp [wholeL]
  | cons y r ih => simp only [List.cons_append, wholeL, ih, Bool.and_assoc]
/-- The seven kinds of Ops that there are. -/
theorem head_cases {o : ByteArray} {n : Int} {len : Nat} (h : headOk o n len = true) :
    (((o.toList == oNum) = true ∧ len = 0 ∧ 0 ≤ n) ∨ ((o.toList == oName) = true ∧ len = 0) ∨ ((o.toList == oTrue) = true ∧ len = 0) ∨ ((o.toList == oFalse) = true ∧ len = 0)) ∨
    ((o.toList == oAt) = true ∧ len = 1) ∨ ((o.toList == oNeg) = true ∧ len = 1) ∨ ((o.toList == oNot) = true ∧ len = 1) ∨ (ofTwoO o = true ∧ len = 2) := by
  unfold headOk manyO at h
  simp only [Bool.and_eq_true, beq_iff_eq, Bool.not_eq_true', Bool.and_eq_false_iff] at h
  obtain ⟨h1, h2⟩ := h
  split at h1
  · rename_i c
    injection h1 with h1
    simp only [Bool.or_eq_true] at c
    rcases c with c | c | c | c
    · exact .inl (.inl ⟨c, h1.symm, by
        rcases h2 with h2 | h2
        · rw [c] at h2; cases h2
        · exact Int.not_lt.1 (of_decide_eq_false h2)⟩)
    · exact .inl (.inr (.inl ⟨c, h1.symm⟩))
    · exact .inl (.inr (.inr (.inl ⟨c, h1.symm⟩)))
    · exact .inl (.inr (.inr (.inr ⟨c, h1.symm⟩)))
  · split at h1
    · rename_i c
      injection h1 with h1
      simp only [Bool.or_eq_true] at c
      rcases c with c | c | c
      · exact .inr (.inl ⟨c, h1.symm⟩)
      · exact .inr (.inr (.inl ⟨c, h1.symm⟩))
      · exact .inr (.inr (.inr (.inl ⟨c, h1.symm⟩)))
    · split at h1
      · rename_i c
        injection h1 with h1
        exact .inr (.inr (.inr (.inr ⟨c, h1.symm⟩)))
      · cases h1
theorem lit_of {o : ByteArray} {l : Bs} (h : (o.toList == l) = true) : o = ⟨l.toArray⟩ := by
  have e : o.toList = l := eq_of_beq h
  rw [ByteArray.toList_eq] at e
  exact WideShapes.bytes_inj (by simpa using e)
theorem twos_ok : ∀ l ∈ twos, opensO ⟨l.toArray⟩ = !simpleO ⟨l.toArray⟩ := by decide +kernel
theorem simple_opens {o : ByteArray} {n : Int} {len : Nat} (h : headOk o n len = true) : opensO o = !simpleO o := by
  rcases head_cases h with (⟨c, -⟩ | ⟨c, -⟩ | ⟨c, -⟩ | ⟨c, -⟩) | ⟨c, -⟩ | ⟨c, -⟩ | ⟨c, -⟩ | ⟨c, -⟩
  · rw [lit_of c]; kernel_rfl
  · rw [lit_of c]; kernel_rfl
  · rw [lit_of c]; kernel_rfl
  · rw [lit_of c]; kernel_rfl
  · rw [lit_of c]; kernel_rfl
  · rw [lit_of c]; kernel_rfl
  · rw [lit_of c]; kernel_rfl
  · have c' := c
    unfold ofTwoO at c'
    have hm : o.toList ∈ twos := List.contains_iff_mem.1 c'
    have q : o = ⟨(o.toList).toArray⟩ := lit_of (beq_self_eq_true _)
    have z := twos_ok o.toList hm
    rw [← q] at z
    exact z
end Go.Proofs.YtklfcjimgnnlfaaDoor
