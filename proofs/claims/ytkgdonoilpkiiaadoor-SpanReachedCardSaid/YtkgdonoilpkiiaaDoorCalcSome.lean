/- Calc of spans, where something is reckoned: its contract. -/
import Derived.Test.YtkgdonoilpkiiaaDoorCalcCore
namespace Go.Proofs.YtkgdonoilpkiiaaDoor
open Go.RowKit

/-- What comes of the ends of a and of one part. -/
def cornerL (op a b c d : Int) : List Int := if sameB c d 1 0 = true then [] else [cut (opR op a c), cut (opR op a d), cut (opR op b c), cut (opR op b d)]
def partN (op : Int) : Nat := if op = 3 then 2 else 1
def partC (op c d : Int) (k : Nat) : Int := if op = 3 then (if k = 0 then meetL c d (-1152921504606846976) (-1) else meetL c d 1 1152921504606846976) else c
def partD (op c d : Int) (k : Nat) : Int := if op = 3 then (if k = 0 then meetH c d (-1152921504606846976) (-1) else meetH c d 1 1152921504606846976) else d
def cornersOf (op a b c d : Int) (k : Nat) : List Int := cornerL op a b (partC op c d k) (partD op c d k)
def endsL (op a b c d : Int) : List Int := EndsOf (cornersOf op a b c d) (partN op)
def endsF (op a b c d : Int) : Nat → Int := fun j => (endsL op a b c d).getD j 0
def wrong0 (op c d : Int) : Bool := decide (op = 3) && hasS c d 0

theorem cornerL_len (op a b c d : Int) : (cornerL op a b c d).length ≤ 4 := by unfold cornerL; split <;> simp

theorem may_of {op x y : Int} (h0 : 0 ≤ op) (h3 : op ≤ 3) (hx : -1152921504606846976 ≤ x ∧ x ≤ 1152921504606846976) (hy : -1152921504606846976 ≤ y ∧ y ≤ 1152921504606846976) (hz : op = 3 → y ≠ 0) : may op x y :=
  ⟨h0, h3, inB_yes hx.1 hx.2, inB_yes hy.1 hy.2, fun h => hz h.1 h.2⟩

theorem meet_neg {c d : Int} (h : noneS c d = false) : (meetL c d (-1152921504606846976) (-1) = 1 ∧ meetH c d (-1152921504606846976) (-1) = 0 ∧ 0 ≤ c) ∨ (c ≤ -1 ∧ meetL c d (-1152921504606846976) (-1) = c ∧ meetH c d (-1152921504606846976) (-1) = min d (-1)) := by
  have e := noneS_no h
  have t := tk_of_right (show rightS (-1152921504606846976) (-1) = true by rw [rightS_iff]; omega)
  rcases meet_cases c d (-1152921504606846976) (-1) with m | m <;> omega
theorem meet_pos {c d : Int} (h : noneS c d = false) : (meetL c d 1 1152921504606846976 = 1 ∧ meetH c d 1 1152921504606846976 = 0 ∧ d ≤ 0) ∨ (1 ≤ d ∧ meetL c d 1 1152921504606846976 = max c 1 ∧ meetH c d 1 1152921504606846976 = d) := by
  have e := noneS_no h
  have t := tk_of_right (show rightS 1 1152921504606846976 = true by rw [rightS_iff]; omega)
  rcases meet_cases c d 1 1152921504606846976 with m | m <;> omega

/-- What the parts' ends are. -/
theorem part_ok {op c d : Int} (h : noneS c d = false) (k : Nat) (hs : sameB (partC op c d k) (partD op c d k) 1 0 = false) :
    (-1152921504606846976 ≤ partC op c d k ∧ partC op c d k ≤ 1152921504606846976) ∧ (-1152921504606846976 ≤ partD op c d k ∧ partD op c d k ≤ 1152921504606846976) ∧ (op = 3 → partC op c d k ≠ 0 ∧ partD op c d k ≠ 0) := by
  have e := noneS_no h
  have hs' : ¬ (partC op c d k = 1 ∧ partD op c d k = 0) := fun x => by rw [(sameB_iff _ _ _ _).2 x] at hs; cases hs
  unfold partC partD at hs' ⊢
  by_cases h3 : op = 3
  · by_cases hk : k = 0
    · simp only [h3, hk, if_true] at hs' ⊢
      rcases meet_neg h with m | m <;> omega
    · simp only [h3, hk, if_true, if_false] at hs' ⊢
      rcases meet_pos h with m | m <;> omega
  · simp only [h3, if_false]
    exact ⟨⟨by omega, by omega⟩, ⟨by omega, by omega⟩, fun h => absurd h id⟩

theorem scalc_some_any (op a b c d : Int) (w : World) (h0 : 0 ≤ op) (h3 : op ≤ 3) (ha : noneS a b = false) (hc : noneS c d = false) :
    Calls Tryd.prog 5 #[.int .i64 op, .agg #[.int .i64 a, .int .i64 b], .agg #[.int .i64 c, .int .i64 d]] w
      (RetCalc (hullL (endsF op a b c d) (endsL op a b c d).length) (hullH (endsF op a b c d) (endsL op a b c d).length) (wrB (endsF op a b c d) (wrong0 op c d) (endsL op a b c d).length) w) := by
  have ea := noneS_no ha
  refine scalc_some op a b c d w (partN op) (partC op c d) (partD op c d) (cornersOf op a b c d) (by unfold partN; split <;> omega) ha hc (decide_eq_false (by omega)) (decide_eq_false (by omega)) (fun k => cornerL_len _ _ _ _ _) ?_ _ _ (wrong0 op c d) rfl rfl ?_ ?_
  · intro k _
    cases hs : sameB (partC op c d k) (partD op c d k) 1 0
    · right
      obtain ⟨b1, b2, b3⟩ := part_ok hc k hs
      refine ⟨_, _, _, _, by unfold cornersOf cornerL; rw [if_neg (by rw [hs]; simp)], fun w => ?_⟩
      exact corners_some op a b _ _ w hs (may_of h0 h3 (by omega) b1 (fun h => (b3 h).1)) (may_of h0 h3 (by omega) b2 (fun h => (b3 h).2)) (may_of h0 h3 (by omega) b1 (fun h => (b3 h).1)) (may_of h0 h3 (by omega) b2 (fun h => (b3 h).2))
    · left
      refine ⟨by unfold cornersOf cornerL; rw [if_pos hs], fun w => ?_⟩
      exact corners_none op a b _ _ w hs
  · unfold wrong0
    by_cases h : op = 3
    · right
      subst h
      exact ⟨rfl, by simp⟩
    · left
      exact ⟨by simpa using h, by simp [h]⟩
  · intro w
    by_cases h : op = 3
    · subst h
      have e : partN 3 = 2 := rfl
      rw [e]
      refine (parts_two c d w).mono fun e w' ⟨g, he, _, hrow, hb⟩ => ⟨g, he, ⟨hrow.1, fun k hk => ?_⟩, hb⟩
      obtain ⟨-, r0, r1, r2, r3⟩ := hrow
      rcases (by omega : k = 0 ∨ k = 1) with rfl | rfl
      · exact ⟨r0, r1⟩
      · exact ⟨r2, r3⟩
    · have e : partN op = 1 := by unfold partN; rw [if_neg h]
      rw [e]
      refine (parts_one op c d w (by simpa using h)).mono fun e w' ⟨g, he, hg, r0, r1, hb⟩ => ⟨g, he, ⟨hg, fun k hk => ?_⟩, hb⟩
      obtain rfl : k = 0 := by omega
      have ec : partC op c d 0 = c := by unfold partC; rw [if_neg h]
      have ed : partD op c d 0 = d := by unfold partD; rw [if_neg h]
      rw [ec, ed]
      exact ⟨r0, r1⟩
end Go.Proofs.YtkgdonoilpkiiaaDoor
