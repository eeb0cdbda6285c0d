/- How often a span can be widened: each change lowers a number that begins at twice the steps, and three. Nothing of the program stands here. -/
import Derived.Test.YtfdojbeckadalaaDoorWidenNums
namespace Go.Proofs.YtfdojbeckadalaaDoor

/-- How many of the first k steps are below l, and -Max with them; how many are above h, and Max with them. -/
def cl (f : Nat → Int) (l : Int) : Nat → Nat
  | 0 => if -1152921504606846976 < l then 1 else 0
  | k + 1 => cl f l k + if f k < l then 1 else 0
def ch (f : Nat → Int) (h : Int) : Nat → Nat
  | 0 => if h < 1152921504606846976 then 1 else 0
  | k + 1 => ch f h k + if h < f k then 1 else 0
theorem cl_le (f : Nat → Int) (l : Int) (k : Nat) : cl f l k ≤ k + 1 := by
  induction k with
  | zero => unfold cl; split <;> omega
  | succ k ih => unfold cl; split <;> omega
theorem ch_le (f : Nat → Int) (h : Int) (k : Nat) : ch f h k ≤ k + 1 := by
  induction k with
  | zero => unfold ch; split <;> omega
  | succ k ih => unfold ch; split <;> omega
theorem cl_mono (f : Nat → Int) {l l' : Int} (h : l' ≤ l) (k : Nat) : cl f l' k ≤ cl f l k := by
  induction k with
  | zero => unfold cl; split <;> split <;> omega
  | succ k ih => unfold cl; split <;> split <;> omega
theorem ch_mono (f : Nat → Int) {h h' : Int} (e : h ≤ h') (k : Nat) : ch f h' k ≤ ch f h k := by
  induction k with
  | zero => unfold ch; split <;> split <;> omega
  | succ k ih => unfold ch; split <;> split <;> omega
theorem cl_less (f : Nat → Int) {l l' : Int} (h : l' < l) (k : Nat) (hin : l' = -1152921504606846976 ∨ ∃ j, j < k ∧ l' = f j) : cl f l' k + 1 ≤ cl f l k := by
  induction k with
  | zero =>
    rcases hin with e | ⟨j, hj, _⟩
    · unfold cl; rw [if_neg (by omega), if_pos (by omega)]; omega
    · omega
  | succ k ih =>
    have m := cl_mono f (Int.le_of_lt h) k
    by_cases e : l' = f k
    · unfold cl; rw [if_neg (by omega), if_pos (by omega)]; omega
    · have i := ih (by
        rcases hin with e' | ⟨j, hj, e'⟩
        · exact Or.inl e'
        · exact Or.inr ⟨j, by rcases Nat.lt_or_ge j k with x | x; exact x; exact absurd (by rw [show k = j by omega]; exact e') e, e'⟩)
      unfold cl; split <;> split <;> omega
theorem ch_less (f : Nat → Int) {h h' : Int} (e : h < h') (k : Nat) (hin : h' = 1152921504606846976 ∨ ∃ j, j < k ∧ h' = f j) : ch f h' k + 1 ≤ ch f h k := by
  induction k with
  | zero =>
    rcases hin with e' | ⟨j, hj, _⟩
    · unfold ch; rw [if_neg (by omega), if_pos (by omega)]; omega
    · omega
  | succ k ih =>
    have m := ch_mono f (Int.le_of_lt e) k
    by_cases e2 : h' = f k
    · unfold ch; rw [if_neg (by omega), if_pos (by omega)]; omega
    · have i := ih (by
        rcases hin with e' | ⟨j, hj, e'⟩
        · exact Or.inl e'
        · exact Or.inr ⟨j, by rcases Nat.lt_or_ge j k with x | x; exact x; exact absurd (by rw [show k = j by omega]; exact e') e2, e'⟩)
      unfold ch; split <;> split <;> omega

/-- What is left to change. -/
def left (f : Nat → Int) (m : Nat) (l h : Int) : Nat := if noneS l h = true then 2 * m + 3 else cl f l m + ch f h m
theorem left_le (f : Nat → Int) (m : Nat) (l h : Int) : left f m l h ≤ 2 * m + 3 := by
  unfold left
  have := cl_le f l m
  have := ch_le f h m
  split <;> omega

/-- Widened, it stays right; it is as it was, or less is left. -/
theorem wid_step (f : Nat → Int) (m : Nat) (l h c d : Int) (hr : rightS l h = true) :
    rightS (widL f m l h c d) (widH f m l h c d) = true ∧ (sameB (widL f m l h c d) (widH f m l h c d) l h = true ∨ left f m (widL f m l h c d) (widH f m l h c d) + 1 ≤ left f m l h) := by
  obtain ⟨e1, e2⟩ := tk_of_right hr
  unfold widL widH
  cases hq : leqS c d l h
  · simp only [Bool.false_eq_true, if_false]
    have hq' : ¬ ((tkL c d = 1 ∧ tkH c d = 0) ∨ (tkL l h ≤ tkL c d ∧ tkH c d ≤ tkH l h ∧ tkL c d ≤ tkH c d)) := fun x => by rw [(leqS_iff c d l h).2 x] at hq; cases hq
    have fc := tk_forms c d
    have cn : noneS (tkL c d) (tkH c d) = false := by
      cases x : noneS (tkL c d) (tkH c d)
      · rfl
      · have := noneS_yes x; rw [(tk_tk c d).1, (tk_tk c d).2] at this; omega
    cases hn : noneS l h
    · have nn := noneS_no hn
      simp only [Bool.false_eq_true, if_false]
      have lo : wloZ f m l h c d ≤ l ∧ -1152921504606846976 ≤ wloZ f m l h c d ∧ (wloZ f m l h c d = l ∨ (wloZ f m l h c d < l ∧ (wloZ f m l h c d = -1152921504606846976 ∨ ∃ j, j < m ∧ wloZ f m l h c d = f j))) := by
        unfold wloZ
        by_cases x : tkL c d < tkL l h
        · rw [if_pos x]
          have b := dnF_bd f (tkL c d) (by omega) m
          exact ⟨by omega, b.1, Or.inr ⟨by omega, dnF_in f (tkL c d) m⟩⟩
        · rw [if_neg x]; exact ⟨by omega, by omega, Or.inl e1⟩
      have hi : h ≤ whiZ f m l h c d ∧ whiZ f m l h c d ≤ 1152921504606846976 ∧ (whiZ f m l h c d = h ∨ (h < whiZ f m l h c d ∧ (whiZ f m l h c d = 1152921504606846976 ∨ ∃ j, j < m ∧ whiZ f m l h c d = f j))) := by
        unfold whiZ
        by_cases x : tkH l h < tkH c d
        · rw [if_pos x]
          have b := upF_bd f (tkH c d) (by omega) m
          exact ⟨by omega, b.2, Or.inr ⟨by omega, upF_in f (tkH c d) m⟩⟩
        · rw [if_neg x]; exact ⟨by omega, by omega, Or.inl e2⟩
      obtain ⟨l1, l2, l3⟩ := lo
      obtain ⟨h1, h2, h3⟩ := hi
      refine ⟨(rightS_iff _ _).2 (Or.inr ⟨l2, h2, by omega⟩), ?_⟩
      have wn : noneS (wloZ f m l h c d) (whiZ f m l h c d) = false := by
        rw [noneS_def, (rightS_iff _ _).2 (Or.inr ⟨l2, h2, by omega⟩), decide_eq_false (show ¬ whiZ f m l h c d < wloZ f m l h c d by omega)]; rfl
      unfold left
      rw [wn, hn]
      simp only [Bool.false_eq_true, if_false]
      have ml := cl_mono f l1 m
      have mh := ch_mono f h1 m
      rcases l3 with x | ⟨x, y⟩
      · rcases h3 with u | ⟨u, v⟩
        · exact Or.inl ((sameB_iff _ _ _ _).2 ⟨x, u⟩)
        · have := ch_less f u m v
          exact Or.inr (by omega)
      · have := cl_less f x m y
        exact Or.inr (by omega)
    · simp only [if_true]
      refine ⟨(rightS_iff _ _).2 (by omega), Or.inr ?_⟩
      unfold left
      rw [cn, hn]
      simp only [Bool.false_eq_true, if_false, if_true]
      have := cl_le f (tkL c d) m
      have := ch_le f (tkH c d) m
      omega
  · simp only [if_true]
    rw [e1, e2]
    exact ⟨hr, Or.inl ((sameB_iff _ _ _ _).2 ⟨rfl, rfl⟩)⟩
end Go.Proofs.YtfdojbeckadalaaDoor
