/- Plain facts on what two spans have together, and in common. Nothing of the program stands here. -/
import Derived.Test.YtkcmapbnconkjaaDoorSpans
namespace Go.Proofs.YtkcmapbnconkjaaDoor

theorem meet_right (a b c d : Int) : rightS (meetL a b c d) (meetH a b c d) = true := by
  unfold meetL meetH; exact rightS_of _ _
theorem join_right (a b c d : Int) : rightS (joinL a b c d) (joinH a b c d) = true := by
  rw [rightS_iff]
  have h1 := tk_forms a b
  have h2 := tk_forms c d
  unfold joinL joinH
  cases x : noneS a b
  · cases y : noneS c d
    · have e1 := noneS_no x
      have e2 := noneS_no y
      simp only [Bool.false_eq_true, if_false]
      omega
    · simp only [Bool.false_eq_true, if_false, if_true]
      omega
  · simp only [if_true]
    omega
theorem join_comm (a b c d : Int) : joinL c d a b = joinL a b c d ∧ joinH c d a b = joinH a b c d := by
  unfold joinL joinH
  cases x : noneS a b
  · cases y : noneS c d
    · simp only [Bool.false_eq_true, if_false]; omega
    · simp only [Bool.false_eq_true, if_false, if_true, and_self]
  · cases y : noneS c d
    · simp only [Bool.false_eq_true, if_false, if_true, and_self]
    · have e1 := noneS_yes x
      have e2 := noneS_yes y
      simp only [if_true]; omega
theorem meet_comm (a b c d : Int) : meetL c d a b = meetL a b c d ∧ meetH c d a b = meetH a b c d := by
  unfold meetL meetH
  rw [show max (tkL c d) (tkL a b) = max (tkL a b) (tkL c d) by omega, show min (tkH c d) (tkH a b) = min (tkH a b) (tkH c d) by omega]
  exact ⟨rfl, rfl⟩
theorem meet_both (a b c d n : Int) : hasS (meetL a b c d) (meetH a b c d) n = (hasS a b n && hasS c d n) := by
  rw [Bool.eq_iff_iff, Bool.and_eq_true]
  have hr := meet_right a b c d
  unfold hasS
  rw [hr]
  simp only [Bool.true_and, Bool.and_eq_true, decide_eq_true_eq]
  have h1 := tk_cases a b
  have h2 := tk_cases c d
  have r1 := rightS_iff a b
  have r2 := rightS_iff c d
  rcases meet_cases a b c d with m | m
  · rcases h1 with ⟨x, y, z⟩ | ⟨x, y, z⟩ <;> rcases h2 with ⟨x', y', z'⟩ | ⟨x', y', z'⟩
    · rw [x, x']; simp only [true_and]; omega
    · rw [x, x']; simp only [true_and, Bool.false_eq_true, false_and, and_false, iff_false]; omega
    · rw [x, x']; simp only [Bool.false_eq_true, false_and, iff_false]; omega
    · rw [x, x']; simp only [Bool.false_eq_true, false_and, iff_false]; omega
  · rcases h1 with ⟨x, y, z⟩ | ⟨x, y, z⟩ <;> rcases h2 with ⟨x', y', z'⟩ | ⟨x', y', z'⟩
    · rw [x, x']; simp only [true_and]; omega
    · rw [x, x']; simp only [true_and, Bool.false_eq_true, false_and, and_false, iff_false]; omega
    · rw [x, x']; simp only [Bool.false_eq_true, false_and, iff_false]; omega
    · rw [x, x']; simp only [Bool.false_eq_true, false_and, iff_false]; omega
theorem join_either (a b c d n : Int) (h : hasS a b n = true ∨ hasS c d n = true) : hasS (joinL a b c d) (joinH a b c d) n = true := by
  have hr := join_right a b c d
  unfold hasS
  rw [hr]
  simp only [Bool.true_and, Bool.and_eq_true, decide_eq_true_eq]
  rcases h with h | h
  · obtain ⟨x, h1, h2⟩ := (hasS_iff a b n).1 h
    have e := noneS_no x
    unfold joinL joinH
    simp only [x, Bool.false_eq_true, if_false]
    cases y : noneS c d
    · have e2 := noneS_no y
      simp only [Bool.false_eq_true, if_false]; omega
    · simp only [if_true]; omega
  · obtain ⟨x, h1, h2⟩ := (hasS_iff c d n).1 h
    have e := noneS_no x
    unfold joinL joinH
    simp only [x, Bool.false_eq_true, if_false]
    cases y : noneS a b
    · have e2 := noneS_no y
      simp only [Bool.false_eq_true, if_false]; omega
    · simp only [if_true]; omega
theorem leq_meet (a b c d : Int) : leqS (meetL a b c d) (meetH a b c d) a b = true := by
  rw [leqS_iff]
  obtain ⟨e1, e2⟩ := tk_of_right (meet_right a b c d)
  rw [e1, e2]
  have h1 := tk_forms a b
  rcases meet_cases a b c d with m | m <;> omega
theorem leq_join (a b c d : Int) : leqS a b (joinL a b c d) (joinH a b c d) = true := by
  rw [leqS_iff]
  obtain ⟨e1, e2⟩ := tk_of_right (join_right a b c d)
  rw [e1, e2]
  cases x : noneS a b
  · have f1 := noneS_no x
    right
    unfold joinL joinH
    simp only [x, Bool.false_eq_true, if_false]
    cases y : noneS c d
    · simp only [Bool.false_eq_true, if_false]; omega
    · simp only [if_true]; omega
  · exact Or.inl (noneS_yes x)
end Go.Proofs.YtkcmapbnconkjaaDoor
