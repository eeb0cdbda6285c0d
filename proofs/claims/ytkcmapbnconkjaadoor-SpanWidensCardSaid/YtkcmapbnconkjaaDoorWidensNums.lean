/- Plain facts on widening and narrowing of spans. Nothing of the program stands here. -/
import Derived.Test.YtkcmapbnconkjaaDoorWidenNums
import Derived.Test.YtkcmapbnconkjaaDoorLawsNums
namespace Go.Proofs.YtkcmapbnconkjaaDoor

/-- What is widened, where it is not the first one. -/
theorem wid_forms (f : Nat → Int) (m : Nat) (a b c d : Int) : rightS (widL f m a b c d) (widH f m a b c d) = true ∧ leqS a b (widL f m a b c d) (widH f m a b c d) = true ∧ leqS c d (widL f m a b c d) (widH f m a b c d) = true := by
  have fa := tk_forms a b
  have fc := tk_forms c d
  have hl := leqS_iff c d a b
  cases x : leqS c d a b
  · have hx : ¬ ((tkL c d = 1 ∧ tkH c d = 0) ∨ (tkL a b ≤ tkL c d ∧ tkH c d ≤ tkH a b ∧ tkL c d ≤ tkH c d)) := fun h => by rw [hl.2 h] at x; cases x
    cases n : noneS a b
    · have en := noneS_no n
      have eL : widL f m a b c d = wloZ f m a b c d := by unfold widL; rw [x, n]; simp
      have eH : widH f m a b c d = whiZ f m a b c d := by unfold widH; rw [x, n]; simp
      have d1 := dnF_bd f (tkL c d) (by omega) m
      have u1 := upF_bd f (tkH c d) (by omega) m
      have lo : -1152921504606846976 ≤ wloZ f m a b c d ∧ wloZ f m a b c d ≤ tkL a b ∧ wloZ f m a b c d ≤ tkL c d := by
        unfold wloZ; split <;> omega
      have hi : whiZ f m a b c d ≤ 1152921504606846976 ∧ tkH a b ≤ whiZ f m a b c d ∧ tkH c d ≤ whiZ f m a b c d := by
        unfold whiZ; split <;> omega
      rw [eL, eH]
      have r : rightS (wloZ f m a b c d) (whiZ f m a b c d) = true := by rw [rightS_iff]; omega
      have t := tk_of_right r
      refine ⟨r, ?_, ?_⟩
      · rw [leqS_iff, t.1, t.2]; omega
      · rw [leqS_iff, t.1, t.2]; omega
    · have en := noneS_yes n
      have eL : widL f m a b c d = tkL c d := by unfold widL; rw [x, n]; simp
      have eH : widH f m a b c d = tkH c d := by unfold widH; rw [x, n]; simp
      rw [eL, eH]
      have t := tk_tk c d
      refine ⟨?_, ?_, ?_⟩
      · rw [rightS_iff]; omega
      · rw [leqS_iff, t.1, t.2]; omega
      · rw [leqS_iff, t.1, t.2]; omega
  · have hx := hl.1 x
    have eL : widL f m a b c d = tkL a b := by unfold widL; rw [x]; simp
    have eH : widH f m a b c d = tkH a b := by unfold widH; rw [x]; simp
    rw [eL, eH]
    have t := tk_tk a b
    refine ⟨?_, ?_, ?_⟩
    · rw [rightS_iff]; omega
    · rw [leqS_iff, t.1, t.2]; omega
    · rw [leqS_iff, t.1, t.2]; omega
/-- What is narrowed has what both have. -/
theorem nar_meet (a b c d : Int) : leqS (meetL a b c d) (meetH a b c d) (narL a b c d) (narH a b c d) = true := by
  have r := meet_right a b c d
  have t := tk_of_right r
  have fa := tk_forms a b
  have fc := tk_forms c d
  rw [leqS_iff, t.1, t.2]
  rcases meet_cases a b c d with mc | mc
  · right
    have na : noneS a b = false := by cases n : noneS a b; rfl; (have := noneS_yes n; omega)
    have nc : noneS c d = false := by cases n : noneS c d; rfl; (have := noneS_yes n; omega)
    have eL : narL a b c d = ofL (nloZ a b c d) (nhiZ a b c d) := by unfold narL; simp [na, nc]
    have eH : narH a b c d = ofH (nloZ a b c d) (nhiZ a b c d) := by unfold narH; simp [na, nc]
    have rr : rightS (narL a b c d) (narH a b c d) = true := by rw [eL, eH]; exact rightS_of _ _
    have tt := tk_of_right rr
    have lo : nloZ a b c d ≤ max (tkL a b) (tkL c d) ∧ -1152921504606846976 ≤ nloZ a b c d := by unfold nloZ; split <;> omega
    have hi : min (tkH a b) (tkH c d) ≤ nhiZ a b c d ∧ nhiZ a b c d ≤ 1152921504606846976 := by unfold nhiZ; split <;> omega
    rw [tt.1, tt.2, eL, eH]
    rcases of_cases (nloZ a b c d) (nhiZ a b c d) with o | o <;> omega
  · left; omega
/-- Where the second one is in the first, what is narrowed has the second one, and no more than the first. -/
theorem nar_in (a b c d : Int) (h : leqS c d a b = true) : leqS c d (narL a b c d) (narH a b c d) = true ∧ leqS (narL a b c d) (narH a b c d) a b = true := by
  have fa := tk_forms a b
  have fc := tk_forms c d
  have hl := (leqS_iff c d a b).1 h
  cases n : noneS a b
  · cases k : noneS c d
    · have en := noneS_no n
      have ek := noneS_no k
      have eL : narL a b c d = ofL (nloZ a b c d) (nhiZ a b c d) := by unfold narL; simp [n, k]
      have eH : narH a b c d = ofH (nloZ a b c d) (nhiZ a b c d) := by unfold narH; simp [n, k]
      have rr : rightS (narL a b c d) (narH a b c d) = true := by rw [eL, eH]; exact rightS_of _ _
      have tt := tk_of_right rr
      have lo : nloZ a b c d ≤ tkL c d ∧ tkL a b ≤ nloZ a b c d := by
        unfold nloZ
        cases q : (tkL a b == -1152921504606846976)
        · simp; omega
        · simp; omega
      have hi : tkH c d ≤ nhiZ a b c d ∧ nhiZ a b c d ≤ tkH a b := by
        unfold nhiZ
        cases q : (tkH a b == 1152921504606846976)
        · simp; omega
        · simp; omega
      rw [leqS_iff, leqS_iff, tt.1, tt.2, eL, eH]
      rcases of_cases (nloZ a b c d) (nhiZ a b c d) with o | o <;> omega
    · have ek := noneS_yes k
      have eL : narL a b c d = 1 := by unfold narL; simp [k]
      have eH : narH a b c d = 0 := by unfold narH; simp [k]
      have tt := tk_of_right (show rightS 1 0 = true by rw [rightS_iff]; omega)
      rw [leqS_iff, leqS_iff, eL, eH, tt.1, tt.2]
      omega
  · have en := noneS_yes n
    have eL : narL a b c d = 1 := by unfold narL; simp [n]
    have eH : narH a b c d = 0 := by unfold narH; simp [n]
    have tt := tk_of_right (show rightS 1 0 = true by rw [rightS_iff]; omega)
    rw [leqS_iff, leqS_iff, eL, eH, tt.1, tt.2]
    omega
end Go.Proofs.YtkcmapbnconkjaaDoor
