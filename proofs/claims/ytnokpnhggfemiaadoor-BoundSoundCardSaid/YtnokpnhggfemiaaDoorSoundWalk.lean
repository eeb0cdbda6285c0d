/- The walk of BoundSound: it returns true at any pair and any two numbers. -/
import Derived.Test.YtnokpnhggfemiaaDoorAlive
import Derived.RegionTactic
import Derived.ChangeAlike
namespace Go.Proofs.YtnokpnhggfemiaaDoor
open Go.RowKit

theorem nearZ_mono {x y : Int} (h : x ≤ y) : nearZ x ≤ nearZ y := by
  rcases nearZ_cases x with h1 | h1 | h1 <;> rcases nearZ_cases y with h2 | h2 | h2 <;> omega
theorem nearZ_in {x : Int} (h : inB x = true) : nearZ x = x := by
  have := of_inB h
  rcases nearZ_cases x with h1 | h1 | h1 <;> omega
theorem nearZ_nearZ (x : Int) : nearZ (nearZ x) = nearZ x := by
  rcases nearZ_cases x with h1 | h1 | h1 <;> rcases nearZ_cases (nearZ x) with h2 | h2 | h2 <;> omega

/-- What two whole numbers are not above, their sum is not above. -/
theorem sum_leq {x y a b : Int} (hx : inB x = true) (hy : inB y = true) (ha : leqB x a = true) (hb : leqB y b = true) : leqB (x + y) (addZ a b) = true := by
  have ha := of_decide_eq_true ha
  have hb := of_decide_eq_true hb
  rw [nearZ_in hx] at ha
  rw [nearZ_in hy] at hb
  apply decide_eq_true
  unfold addZ
  by_cases h : nearZ a = 4611686018427387904 ∨ nearZ b = 4611686018427387904
  · rw [if_pos h]
    have : nearZ 4611686018427387904 = 4611686018427387904 := by decide
    rw [this]
    exact (nearZ_bd _).2
  · rw [if_neg h, nearZ_nearZ]
    exact nearZ_mono (by omega)

/-- The world behind the pair that is boxed, and the draw. -/
theorem boxed_below (w : World) (o : Obj) : Below w.heap.size w (w.alloc o).drew := ((Below.refl _ _).alloc (Nat.le_refl _) _).drew

set_option maxHeartbeats 1000000 in
theorem sound_odd (x y a b : Int) (w : World) (ht : Tabs w) (h : inB x = false ∨ (inB x = true ∧ inB y = false) ∨ (inB x = true ∧ inB y = true ∧ leqB x a = false) ∨ (inB x = true ∧ inB y = true ∧ leqB x a = true ∧ leqB y b = false)) :
    Calls Tryd.prog 5 #[.agg #[.int .i64 x, .int .i64 y], .int .i64 a, .int .i64 b] w (RetTrue w) := by
  have hb0 := boxed_below w (.cells #[.int .i64 x, .int .i64 y] 31)
  have HA := Lib.hid (alive_any _ (ht.stays hb0))
  have HB := Lib.hid hb0
  clear ht hb0
  rcases h with h | ⟨h, h'⟩ | ⟨h, h', h''⟩ | ⟨h, h', h'', h3⟩
  all_goals
    go_enter Tryd.func5, Tryd.ntmps5
    go_wp2_with fail
    go_region
    go_wp2_with (first
      | (go_at_call 13; ((with_reducible refine (in_any _ _).mono ?_); rintro e w' ⟨rfl, rfl⟩))
      | (go_at_call 21; ((with_reducible refine (leq_any _ _ _).mono ?_); rintro e w' ⟨rfl, rfl⟩))
      | (go_at_call 12; ((with_reducible refine HA.out.mono ?_); rintro e w' ⟨rfl, hb⟩)))
    go_ret
    exact ⟨rfl, below_trans HB.out (by assumption)⟩

set_option maxHeartbeats 1000000 in
theorem sound_all (x y a b : Int) (w : World) (ht : Tabs w) (hx : inB x = true) (hy : inB y = true) (h1 : leqB x a = true) (h2 : leqB y b = true) :
    Calls Tryd.prog 5 #[.agg #[.int .i64 x, .int .i64 y], .int .i64 a, .int .i64 b] w (RetTrue w) := by
  have hb0 := boxed_below w (.cells #[.int .i64 x, .int .i64 y] 31)
  have HA := Lib.hid (alive_any _ (ht.stays hb0))
  have HB := Lib.hid hb0
  clear ht hb0
  have hs := sum_leq hx hy h1 h2
  obtain ⟨x1, x2⟩ := of_inB hx
  obtain ⟨y1, y2⟩ := of_inB hy
  go_enter Tryd.func5, Tryd.ntmps5
  go_wp2_with fail
  go_region
  go_wp2_with (first
    | (go_at_call 13; ((with_reducible refine (in_any _ _).mono ?_); rintro e w' ⟨rfl, rfl⟩))
    | (go_at_call 21; ((with_reducible refine (leq_any _ _ _).mono ?_); rintro e w' ⟨rfl, rfl⟩))
    | (go_at_call 19; ((with_reducible refine (add_any _ _ _).mono ?_); rintro e w' ⟨rfl, rfl⟩))
    | (go_at_call 12; ((with_reducible refine HA.out.mono ?_); rintro e w' ⟨rfl, hb⟩)))
  go_ret
  exact ⟨rfl, below_trans HB.out (by assumption)⟩

theorem sound_walk (x y a b : Int) (w : World) (ht : Tabs w) : Calls Tryd.prog 5 #[.agg #[.int .i64 x, .int .i64 y], .int .i64 a, .int .i64 b] w (RetTrue w) := by
  cases hx : inB x
  · exact sound_odd x y a b w ht (Or.inl hx)
  cases hy : inB y
  · exact sound_odd x y a b w ht (Or.inr (Or.inl ⟨hx, hy⟩))
  cases h1 : leqB x a
  · exact sound_odd x y a b w ht (Or.inr (Or.inr (Or.inl ⟨hx, hy, h1⟩)))
  cases h2 : leqB y b
  · exact sound_odd x y a b w ht (Or.inr (Or.inr (Or.inr ⟨hx, hy, h1, h2⟩)))
  · exact sound_all x y a b w ht hx hy h1 h2
end Go.Proofs.YtnokpnhggfemiaaDoor
