/- Widening and narrowing of spans. Nothing of the program stands here. -/
import Derived.Test.YtkgdonoilpkiiaaDoorHullNums
namespace Go.Proofs.YtkgdonoilpkiiaaDoor

theorem tk_tk (l h : Int) : tkL (tkL l h) (tkH l h) = tkL l h ∧ tkH (tkL l h) (tkH l h) = tkH l h := by
  refine tk_of_right ?_
  rw [rightS_iff]
  rcases tk_forms l h with h | h <;> omega
theorem leqS_tk (a b c d : Int) : leqS (tkL a b) (tkH a b) (tkL c d) (tkH c d) = leqS a b c d := by
  unfold leqS meetL meetH
  rw [(tk_tk a b).1, (tk_tk a b).2, (tk_tk c d).1, (tk_tk c d).2]
theorem meet_tk (a b c d : Int) : meetL (tkL a b) (tkH a b) (tkL c d) (tkH c d) = meetL a b c d ∧ meetH (tkL a b) (tkH a b) (tkL c d) (tkH c d) = meetH a b c d := by
  unfold meetL meetH
  rw [(tk_tk a b).1, (tk_tk a b).2, (tk_tk c d).1, (tk_tk c d).2]
  exact ⟨rfl, rfl⟩

/-- What is narrowed, ahead of Of. -/
def nloZ (a b c d : Int) : Int := if (tkL a b == -1152921504606846976) = true then tkL c d else tkL a b
def nhiZ (a b c d : Int) : Int := if (tkH a b == 1152921504606846976) = true then tkH c d else tkH a b
def narL (a b c d : Int) : Int := if noneS a b = true ∨ noneS c d = true then 1 else ofL (nloZ a b c d) (nhiZ a b c d)
def narH (a b c d : Int) : Int := if noneS a b = true ∨ noneS c d = true then 0 else ofH (nloZ a b c d) (nhiZ a b c d)

/-- The greatest of the first steps that is not above n, and the least that is not below it. -/
def dnF (f : Nat → Int) (n : Int) : Nat → Int
  | 0 => -1152921504606846976
  | k + 1 => if f k ≤ n then max (dnF f n k) (f k) else dnF f n k
def upF (f : Nat → Int) (n : Int) : Nat → Int
  | 0 => 1152921504606846976
  | k + 1 => if n ≤ f k then min (upF f n k) (f k) else upF f n k
theorem dnF_yes {f : Nat → Int} {n : Int} {k : Nat} (h : f k ≤ n) : dnF f n (k + 1) = max (dnF f n k) (f k) := if_pos h
theorem dnF_no {f : Nat → Int} {n : Int} {k : Nat} (h : ¬ f k ≤ n) : dnF f n (k + 1) = dnF f n k := if_neg h
theorem upF_yes {f : Nat → Int} {n : Int} {k : Nat} (h : n ≤ f k) : upF f n (k + 1) = min (upF f n k) (f k) := if_pos h
theorem upF_no {f : Nat → Int} {n : Int} {k : Nat} (h : ¬ n ≤ f k) : upF f n (k + 1) = upF f n k := if_neg h
theorem dnF_bd (f : Nat → Int) (n : Int) (hn : -1152921504606846976 ≤ n) (k : Nat) : -1152921504606846976 ≤ dnF f n k ∧ dnF f n k ≤ n := by
  induction k with
  | zero => exact ⟨Int.le_refl _, hn⟩
  | succ k ih =>
    by_cases h : f k ≤ n
    · rw [dnF_yes h]; omega
    · rw [dnF_no h]; exact ih
theorem upF_bd (f : Nat → Int) (n : Int) (hn : n ≤ 1152921504606846976) (k : Nat) : n ≤ upF f n k ∧ upF f n k ≤ 1152921504606846976 := by
  induction k with
  | zero => exact ⟨hn, Int.le_refl _⟩
  | succ k ih =>
    by_cases h : n ≤ f k
    · rw [upF_yes h]; omega
    · rw [upF_no h]; exact ih
/-- It is -Max, or one of the steps. -/
theorem dnF_in (f : Nat → Int) (n : Int) (k : Nat) : dnF f n k = -1152921504606846976 ∨ ∃ j, j < k ∧ dnF f n k = f j := by
  induction k with
  | zero => exact Or.inl rfl
  | succ k ih =>
    have back : (dnF f n (k + 1) = dnF f n k) → (dnF f n (k + 1) = -1152921504606846976 ∨ ∃ j, j < k + 1 ∧ dnF f n (k + 1) = f j) := fun e => by
      rcases ih with h | ⟨j, hj, h⟩
      · exact Or.inl (by omega)
      · exact Or.inr ⟨j, by omega, by omega⟩
    by_cases h : f k ≤ n
    · have e := dnF_yes h
      by_cases c : dnF f n k ≤ f k
      · exact Or.inr ⟨k, by omega, by omega⟩
      · exact back (by omega)
    · exact back (dnF_no h)
theorem upF_in (f : Nat → Int) (n : Int) (k : Nat) : upF f n k = 1152921504606846976 ∨ ∃ j, j < k ∧ upF f n k = f j := by
  induction k with
  | zero => exact Or.inl rfl
  | succ k ih =>
    have back : (upF f n (k + 1) = upF f n k) → (upF f n (k + 1) = 1152921504606846976 ∨ ∃ j, j < k + 1 ∧ upF f n (k + 1) = f j) := fun e => by
      rcases ih with h | ⟨j, hj, h⟩
      · exact Or.inl (by omega)
      · exact Or.inr ⟨j, by omega, by omega⟩
    by_cases h : n ≤ f k
    · have e := upF_yes h
      by_cases c : f k ≤ upF f n k
      · exact Or.inr ⟨k, by omega, by omega⟩
      · exact back (by omega)
    · exact back (upF_no h)

/-- What is widened. -/
def wloZ (f : Nat → Int) (m : Nat) (a b c d : Int) : Int := if tkL c d < tkL a b then dnF f (tkL c d) m else tkL a b
def whiZ (f : Nat → Int) (m : Nat) (a b c d : Int) : Int := if tkH a b < tkH c d then upF f (tkH c d) m else tkH a b
def widL (f : Nat → Int) (m : Nat) (a b c d : Int) : Int := if leqS c d a b = true then tkL a b else if noneS a b = true then tkL c d else wloZ f m a b c d
def widH (f : Nat → Int) (m : Nat) (a b c d : Int) : Int := if leqS c d a b = true then tkH a b else if noneS a b = true then tkH c d else whiZ f m a b c d
end Go.Proofs.YtkgdonoilpkiiaaDoor
