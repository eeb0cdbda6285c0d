/- The walk of BoundThree: it returns true at any three numbers. -/
import Derived.Test.YtnokpnhggfemiaaDoorAlive
namespace Go.Proofs.YtnokpnhggfemiaaDoor
open Go.RowKit

/-- The sum of two bounds is cut. -/
def cutB (x y : Int) : Bool := decide (¬ x = 4611686018427387904 ∧ ¬ y = 4611686018427387904 ∧ (x + y < -2305843009213693952 ∨ 2305843009213693952 < x + y))

theorem of_rightB {b : Int} (h : rightB b = true) : b = 4611686018427387904 ∨ (-2305843009213693952 ≤ b ∧ b ≤ 2305843009213693952) := of_decide_eq_true h

/-- Bounds that are added hang on no brackets, if none of the sums is cut. -/
theorem three_same {a b c : Int} (ha : rightB a = true) (hb : rightB b = true) (hc : rightB c = true) (h1 : cutB a b = false) (h2 : cutB b c = false) : addZ (addZ a b) c = addZ a (addZ b c) := by
  have ha := of_rightB ha
  have hb := of_rightB hb
  have hc := of_rightB hc
  have h1 := of_decide_eq_false h1
  have h2 := of_decide_eq_false h2
  have key : ∀ x : Int, (x = 4611686018427387904 ∨ (-2305843009213693952 ≤ x ∧ x ≤ 2305843009213693952)) → nearZ x = x := fun x hx => by
    rcases nearZ_cases x with h | h | h <;> omega
  have ka := key a ha
  have kb := key b hb
  have kc := key c hc
  have add1 : ∀ x y : Int, nearZ x = x → nearZ y = y → (x = 4611686018427387904 ∨ y = 4611686018427387904) → addZ x y = 4611686018427387904 := fun x y hx hy h => by
    unfold addZ; rw [hx, hy]; exact if_pos h
  have add2 : ∀ x y : Int, nearZ x = x → nearZ y = y → ¬ (x = 4611686018427387904 ∨ y = 4611686018427387904) → addZ x y = nearZ (x + y) := fun x y hx hy h => by
    unfold addZ; rw [hx, hy]; exact if_neg h
  have kn : nearZ 4611686018427387904 = 4611686018427387904 := key _ (Or.inl rfl)
  by_cases na : a = 4611686018427387904
  · have e1 := add1 a b ka kb (Or.inl na)
    rw [e1, add1 _ c kn kc (Or.inl rfl)]
    have kk : ∀ x : Int, addZ a x = 4611686018427387904 := fun x => by unfold addZ; rw [ka]; exact if_pos (Or.inl na)
    rw [kk]
  by_cases nb : b = 4611686018427387904
  · rw [add1 a b ka kb (Or.inr nb), add1 b c kb kc (Or.inl nb), add1 _ c kn kc (Or.inl rfl), add1 a _ ka kn (Or.inr rfl)]
  by_cases nc : c = 4611686018427387904
  · rw [add1 b c kb kc (Or.inr nc), add1 a _ ka kn (Or.inr rfl)]
    have kk : ∀ x : Int, addZ x c = 4611686018427387904 := fun x => by unfold addZ; rw [kc]; exact if_pos (Or.inr nc)
    rw [kk]
  have s1 : nearZ (a + b) = a + b := key _ (by omega)
  have s2 : nearZ (b + c) = b + c := key _ (by omega)
  rw [add2 a b ka kb (by omega), add2 b c kb kc (by omega), s1, s2, add2 (a + b) c s1 kc (by omega), add2 a (b + c) ka s2 (by omega), Int.add_assoc]

set_option maxHeartbeats 1000000 in
theorem cut_any (x y : Int) (w : World) (hx : rightB x = true) (hy : rightB y = true) : Calls Tryd.prog 26 #[.int .i64 x, .int .i64 y] w fun e w' => e = .returned (.bool (cutB x y)) ∧ w = w' := by
  have hx := of_rightB hx
  have hy := of_rightB hy
  by_cases n1 : x = 4611686018427387904
  · have e : cutB x y = false := decide_eq_false (by omega)
    rw [e]; clear e
    have h1 : (x != 4611686018427387904) = false := by simpa using n1
    clear n1 hx hy
    go_enter Tryd.func26, Tryd.ntmps26
    go_wp2
    go_ret
    exact ⟨rfl, rfl⟩
  have h1 : (x != 4611686018427387904) = true := by simpa using n1
  by_cases n2 : y = 4611686018427387904
  · have e : cutB x y = false := decide_eq_false (by omega)
    rw [e]; clear e
    have h2 : (y != 4611686018427387904) = false := by simpa using n2
    clear n1 n2 hx hy
    go_enter Tryd.func26, Tryd.ntmps26
    go_wp2
    go_ret
    exact ⟨rfl, rfl⟩
  have h2 : (y != 4611686018427387904) = true := by simpa using n2
  have x1 : -2305843009213693952 ≤ x := by omega
  have x2 : x ≤ 2305843009213693952 := by omega
  have y1 : -2305843009213693952 ≤ y := by omega
  have y2 : y ≤ 2305843009213693952 := by omega
  by_cases n3 : x + y < -2305843009213693952
  · have e : cutB x y = true := decide_eq_true (by omega)
    rw [e]; clear e
    clear n1 n2 hx hy
    go_enter Tryd.func26, Tryd.ntmps26
    go_wp2
    go_ret
    exact ⟨rfl, rfl⟩
  by_cases n4 : 2305843009213693952 < x + y
  · have e : cutB x y = true := decide_eq_true (by omega)
    rw [e]; clear e
    clear n1 n2 hx hy
    have n3' : decide (x + y < -2305843009213693952) = false := decide_eq_false n3
    clear n3
    go_enter Tryd.func26, Tryd.ntmps26
    go_wp2
    go_ret
    exact ⟨rfl, rfl⟩
  · have e : cutB x y = false := decide_eq_false (by omega)
    rw [e]; clear e
    clear n1 n2 hx hy
    have n3' : decide (x + y < -2305843009213693952) = false := decide_eq_false n3
    have n4' : decide (2305843009213693952 < x + y) = false := decide_eq_false n4
    clear n3 n4
    go_enter Tryd.func26, Tryd.ntmps26
    go_wp2
    go_ret
    exact ⟨rfl, rfl⟩

set_option maxHeartbeats 1000000 in
theorem three_odd (a b c : Int) (w : World) (ht : Tabs w) (h : rightB a = false ∨ (rightB a = true ∧ rightB b = false) ∨ (rightB a = true ∧ rightB b = true ∧ rightB c = false)) :
    Calls Tryd.prog 9 #[.int .i64 a, .int .i64 b, .int .i64 c] w (RetTrue w) := by
  have HA := Lib.hid (alive_any w ht)
  clear ht
  rcases h with h | ⟨h, h'⟩ | ⟨h, h', h''⟩
  all_goals
    go_enter Tryd.func9, Tryd.ntmps9
    go_wp2_with (first
      | (go_at_call 15; ((with_reducible refine (right_any _ _).mono ?_); rintro e w' ⟨rfl, rfl⟩))
      | (go_at_call 12; ((with_reducible refine HA.out.mono ?_); rintro e w' ⟨rfl, hb⟩)))
    go_ret
    exact ⟨rfl, by assumption⟩

set_option maxHeartbeats 1000000 in
theorem three_cut (a b c : Int) (w : World) (ht : Tabs w) (ha : rightB a = true) (hb : rightB b = true) (hc : rightB c = true) (h : cutB a b = true ∨ (cutB a b = false ∧ cutB b c = true)) :
    Calls Tryd.prog 9 #[.int .i64 a, .int .i64 b, .int .i64 c] w (RetTrue w) := by
  have HA := Lib.hid (alive_any w ht)
  clear ht
  rcases h with h | ⟨h, h'⟩
  all_goals
    go_enter Tryd.func9, Tryd.ntmps9
    go_wp2_with (first
      | (go_at_call 15; ((with_reducible refine (right_any _ _).mono ?_); rintro e w' ⟨rfl, rfl⟩))
      | (go_at_call 19; ((with_reducible refine (add_any _ _ _).mono ?_); rintro e w' ⟨rfl, rfl⟩))
      | (go_at_call 26; ((with_reducible refine (cut_any _ _ _ (by assumption) (by assumption)).mono ?_); rintro e w' ⟨rfl, rfl⟩))
      | (go_at_call 12; ((with_reducible refine HA.out.mono ?_); rintro e w' ⟨rfl, hb⟩)))
    go_ret
    exact ⟨rfl, by assumption⟩

set_option maxHeartbeats 1000000 in
theorem three_sum (a b c : Int) (w : World) (ht : Tabs w) (ha : rightB a = true) (hb : rightB b = true) (hc : rightB c = true) (h : cutB a b = false) (h' : cutB b c = false) :
    Calls Tryd.prog 9 #[.int .i64 a, .int .i64 b, .int .i64 c] w (RetTrue w) := by
  have HA := Lib.hid (alive_any w ht)
  have hs : (addZ (addZ a b) c == addZ a (addZ b c)) = true := by simpa using three_same ha hb hc h h'
  clear ht
  go_enter Tryd.func9, Tryd.ntmps9
  go_wp2_with (first
    | (go_at_call 15; ((with_reducible refine (right_any _ _).mono ?_); rintro e w' ⟨rfl, rfl⟩))
    | (go_at_call 19; ((with_reducible refine (add_any _ _ _).mono ?_); rintro e w' ⟨rfl, rfl⟩))
    | (go_at_call 26; ((with_reducible refine (cut_any _ _ _ (by assumption) (by assumption)).mono ?_); rintro e w' ⟨rfl, rfl⟩))
    | (go_at_call 12; ((with_reducible refine HA.out.mono ?_); rintro e w' ⟨rfl, hb⟩)))
  go_ret
  exact ⟨rfl, by assumption⟩

theorem three_walk (a b c : Int) (w : World) (ht : Tabs w) : Calls Tryd.prog 9 #[.int .i64 a, .int .i64 b, .int .i64 c] w (RetTrue w) := by
  cases ha : rightB a
  · exact three_odd a b c w ht (Or.inl ha)
  cases hb : rightB b
  · exact three_odd a b c w ht (Or.inr (Or.inl ⟨ha, hb⟩))
  cases hc : rightB c
  · exact three_odd a b c w ht (Or.inr (Or.inr ⟨ha, hb, hc⟩))
  cases h1 : cutB a b
  · cases h2 : cutB b c
    · exact three_sum a b c w ht ha hb hc h1 h2
    · exact three_cut a b c w ht ha hb hc (Or.inr ⟨h1, h2⟩)
  · exact three_cut a b c w ht ha hb hc (Or.inl h1)
end Go.Proofs.YtnokpnhggfemiaaDoor
