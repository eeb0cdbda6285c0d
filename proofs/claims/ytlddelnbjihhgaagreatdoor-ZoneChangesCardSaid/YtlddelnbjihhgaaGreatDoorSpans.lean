/- Plain functions on spans: what the span layer reckons, and what is true of it. Nothing of the program stands here. -/
import Derived.Test.YtlddelnbjihhgaaGreatDoorNums
namespace Go.Proofs.YtlddelnbjihhgaaGreatDoor

/-- All whole numbers from l to h, as a right span: its two ends. -/
def ofL (l h : Int) : Int := if max l (-1152921504606846976) ≤ min h 1152921504606846976 then max l (-1152921504606846976) else 1
def ofH (l h : Int) : Int := if max l (-1152921504606846976) ≤ min h 1152921504606846976 then min h 1152921504606846976 else 0
theorem of_cases (l h : Int) : (max l (-1152921504606846976) ≤ min h 1152921504606846976 ∧ ofL l h = max l (-1152921504606846976) ∧ ofH l h = min h 1152921504606846976) ∨ (min h 1152921504606846976 < max l (-1152921504606846976) ∧ ofL l h = 1 ∧ ofH l h = 0) := by
  unfold ofL ofH
  by_cases c : max l (-1152921504606846976) ≤ min h 1152921504606846976
  · rw [if_pos c, if_pos c]; exact Or.inl ⟨c, rfl, rfl⟩
  · rw [if_neg c, if_neg c]; exact Or.inr ⟨by omega, rfl, rfl⟩

/-- Two spans are the same. -/
def sameB (a b c d : Int) : Bool := a == c && b == d
theorem sameB_iff (a b c d : Int) : sameB a b c d = true ↔ (a = c ∧ b = d) := by unfold sameB; rw [Bool.and_eq_true, beq_iff_eq, beq_iff_eq]

/-- A right span. -/
def rightS (l h : Int) : Bool := sameB l h (ofL l h) (ofH l h)
theorem rightS_iff (l h : Int) : rightS l h = true ↔ ((l = 1 ∧ h = 0) ∨ (-1152921504606846976 ≤ l ∧ h ≤ 1152921504606846976 ∧ l ≤ h)) := by
  unfold rightS
  rw [sameB_iff]
  rcases of_cases l h with c | c <;> omega
theorem rightS_of (l h : Int) : rightS (ofL l h) (ofH l h) = true := by
  rw [rightS_iff]
  rcases of_cases l h with c | c <;> omega

/-- As all calls of the layer take a span. -/
def tkL (l h : Int) : Int := if rightS l h = true then l else 1
def tkH (l h : Int) : Int := if rightS l h = true then h else 0
theorem tk_cases (l h : Int) : (rightS l h = true ∧ tkL l h = l ∧ tkH l h = h) ∨ (rightS l h = false ∧ tkL l h = 1 ∧ tkH l h = 0) := by
  unfold tkL tkH
  cases c : rightS l h
  · right; simp
  · left; simp
/-- Either it has nothing, or its ends are whole numbers in order. -/
theorem tk_forms (l h : Int) : (tkL l h = 1 ∧ tkH l h = 0) ∨ (-1152921504606846976 ≤ tkL l h ∧ tkH l h ≤ 1152921504606846976 ∧ tkL l h ≤ tkH l h) := by
  rcases tk_cases l h with ⟨c, e1, e2⟩ | ⟨c, e1, e2⟩
  · rw [rightS_iff] at c; omega
  · omega
theorem tk_bd (l h : Int) : -1152921504606846976 ≤ tkL l h ∧ tkL l h ≤ 1152921504606846976 ∧ -1152921504606846976 ≤ tkH l h ∧ tkH l h ≤ 1152921504606846976 := by
  rcases tk_forms l h with h | h <;> omega
theorem tk_of_right {l h : Int} (c : rightS l h = true) : tkL l h = l ∧ tkH l h = h := by
  rcases tk_cases l h with h | h
  · exact h.2
  · rw [c] at h; cases h.1

/-- It has nothing. -/
def noneS (l h : Int) : Bool := sameB (tkL l h) (tkH l h) 1 0
theorem noneS_iff (l h : Int) : noneS l h = true ↔ (tkL l h = 1 ∧ tkH l h = 0) := by unfold noneS; rw [sameB_iff]
theorem noneS_yes {l h : Int} (c : noneS l h = true) : tkL l h = 1 ∧ tkH l h = 0 := (noneS_iff l h).1 c
theorem noneS_no {l h : Int} (c : noneS l h = false) : -1152921504606846976 ≤ l ∧ h ≤ 1152921504606846976 ∧ l ≤ h ∧ tkL l h = l ∧ tkH l h = h ∧ rightS l h = true := by
  have c : ¬ (tkL l h = 1 ∧ tkH l h = 0) := fun x => by rw [(noneS_iff l h).2 x] at c; cases c
  rcases tk_cases l h with ⟨r, e1, e2⟩ | ⟨r, e1, e2⟩
  · have := (rightS_iff l h).1 r
    rw [e1, e2] at c
    exact ⟨by omega, by omega, by omega, e1, e2, r⟩
  · omega
theorem noneS_def (l h : Int) : noneS l h = (!rightS l h || decide (h < l)) := by
  cases c : noneS l h
  · have := noneS_no c
    rw [this.2.2.2.2.2]
    have e : decide (h < l) = false := decide_eq_false (by omega)
    simp [e]
  · rcases tk_cases l h with ⟨r, e1, e2⟩ | ⟨r, e1, e2⟩
    · have := noneS_yes c
      have e : decide (h < l) = true := decide_eq_true (by omega)
      simp [e]
    · simp [r]

/-- A number is in it. -/
def hasS (l h n : Int) : Bool := rightS l h && (decide (l ≤ n) && decide (n ≤ h))
theorem hasS_iff (l h n : Int) : hasS l h n = true ↔ (noneS l h = false ∧ l ≤ n ∧ n ≤ h) := by
  unfold hasS
  rw [noneS_def]
  cases rightS l h <;> simp
  omega
theorem hasS_ref (l h n : Int) : hasS l h n = (!noneS l h && (decide (l ≤ n) && decide (n ≤ h))) := by
  rw [Bool.eq_iff_iff, hasS_iff]
  cases noneS l h <;> simp
theorem hasS_bd {l h n : Int} (c : hasS l h n = true) : -1152921504606846976 ≤ n ∧ n ≤ 1152921504606846976 ∧ l ≤ n ∧ n ≤ h := by
  obtain ⟨c, h1, h2⟩ := (hasS_iff l h n).1 c
  have := noneS_no c
  omega

/-- What is in both. -/
def meetL (a b c d : Int) : Int := ofL (max (tkL a b) (tkL c d)) (min (tkH a b) (tkH c d))
def meetH (a b c d : Int) : Int := ofH (max (tkL a b) (tkL c d)) (min (tkH a b) (tkH c d))

/-- All of the first is in the second. -/
def leqS (a b c d : Int) : Bool := sameB (meetL a b c d) (meetH a b c d) (tkL a b) (tkH a b)
theorem meet_cases (a b c d : Int) : (max (tkL a b) (tkL c d) ≤ min (tkH a b) (tkH c d) ∧ meetL a b c d = max (tkL a b) (tkL c d) ∧ meetH a b c d = min (tkH a b) (tkH c d)) ∨ (min (tkH a b) (tkH c d) < max (tkL a b) (tkL c d) ∧ meetL a b c d = 1 ∧ meetH a b c d = 0) := by
  have h1 := tk_bd a b
  have h2 := tk_bd c d
  unfold meetL meetH
  rcases of_cases (max (tkL a b) (tkL c d)) (min (tkH a b) (tkH c d)) with h | h <;> omega
theorem leqS_iff (a b c d : Int) : leqS a b c d = true ↔ ((tkL a b = 1 ∧ tkH a b = 0) ∨ (tkL c d ≤ tkL a b ∧ tkH a b ≤ tkH c d ∧ tkL a b ≤ tkH a b)) := by
  unfold leqS
  rw [sameB_iff]
  have h1 := tk_forms a b
  have h2 := tk_forms c d
  rcases meet_cases a b c d with h | h <;> omega

/-- The least span that has all of both. -/
def joinL (a b c d : Int) : Int := if noneS a b = true then tkL c d else if noneS c d = true then tkL a b else min (tkL a b) (tkL c d)
def joinH (a b c d : Int) : Int := if noneS a b = true then tkH c d else if noneS c d = true then tkH a b else max (tkH a b) (tkH c d)
end Go.Proofs.YtlddelnbjihhgaaGreatDoor
