/- The contracts of the document's Most and Bottom; its shrink, in numbers. -/
import Derived.Test.YtlddelnbjihhgaaGreatDoorRRow
import Derived.Test.YtlddelnbjihhgaaGreatDoorZVals
import Derived.Test.YtlddelnbjihhgaaGreatDoorRWalks
namespace Go.Proofs.YtlddelnbjihhgaaGreatDoor
open Go.RowKit
attribute [local go_sem ↓] Go.wp_at_zero Go.wp_at_succ

theorem rmost_any (i j : Nat) (w : World) : Calls Tryz.prog 77 #[.int .i64 (i : Int), .int .i64 (j : Int)] w fun e w' => e = .returned (.int .i64 (far i j)) ∧ w = w' := by
  rcases far_cases i j with ⟨h, e⟩ | ⟨h, h2, e⟩ | ⟨h, h2, h3, e⟩
  · rw [e]
    have b1 : ((i : Int) == (j : Int)) = true := by simp; omega
    clear e h
    go_enter Tryz.func77, Tryz.ntmps77
    go_wp2_with fail
    go_ret
    exact ⟨rfl, rfl⟩
  · rw [e]
    have b1 : ((i : Int) == (j : Int)) = false := by simp; omega
    by_cases h0 : i = 0
    · subst h0
      clear e h h2
      go_enter Tryz.func77, Tryz.ntmps77
      go_wp2_with (go_at_call 50; ((with_reducible refine (rtop_any _).mono ?_); rintro e w1 ⟨rfl, rfl⟩))
      go_ret
      exact ⟨rfl, rfl⟩
    · obtain rfl : j = 0 := by omega
      have b2 : ((i : Int) == 0) = false := by simp; omega
      clear e h h2
      go_enter Tryz.func77, Tryz.ntmps77
      go_wp2_with (go_at_call 50; ((with_reducible refine (rtop_any _).mono ?_); rintro e w1 ⟨rfl, rfl⟩))
      go_ret
      exact ⟨rfl, rfl⟩
  · rw [e]
    have b1 : ((i : Int) == (j : Int)) = false := by simp; omega
    have b2 : ((i : Int) == 0) = false := by simp; omega
    have b3 : ((j : Int) == 0) = false := by simp; omega
    clear e h h2 h3
    go_enter Tryz.func77, Tryz.ntmps77
    go_wp2_with (go_at_call 50; ((with_reducible refine (rtop_any _).mono ?_); rintro e w1 ⟨rfl, rfl⟩))
    go_ret
    exact ⟨rfl, rfl⟩
theorem rbottom_any (n : Int) (w : World) : Calls Tryz.prog 24 #[.int .i64 n] w (RetBot (botN n) w) := by
  have hb := zboxed w (.cells #[.int .i64 0, .slice none 0 0] 24)
  have k := Duo.new w 24 (.int .i64 0) (.slice none 0 0)
  obtain ⟨W1, hW1⟩ : ∃ W1, w.alloc (.cells #[.int .i64 0, .slice none 0 0] 24) = W1 := ⟨_, rfl⟩
  rw [hW1] at k hb
  have c0 := k.cell0
  have c1 := k.cell1
  have c2 := k.frozen0
  have c3 := k.frozen1
  have c4 := k.lt
  have key : ∀ (x : Int), Duo ((W1.setCell ⟨w.heap.size, 0, none⟩ (.int .i64 x)).setCell ⟨w.heap.size, 1, none⟩ (.slice none 0 0)) w.heap.size 24 (.int .i64 x) (.slice none 0 0) ∧ Below w.heap.size w ((W1.setCell ⟨w.heap.size, 0, none⟩ (.int .i64 x)).setCell ⟨w.heap.size, 1, none⟩ (.slice none 0 0)) :=
    fun x => ⟨(k.set0 _).set1 _, (hb.setCell (p := ⟨w.heap.size, 0, none⟩) (Nat.le_refl _) _).setCell (p := ⟨w.heap.size, 1, none⟩) (Nat.le_refl _) _⟩
  have HK := Lib.hid key
  clear hb k key
  unfold botN
  by_cases h0 : n < 0
  · have hd : decide (n < 0) = true := decide_eq_true h0
    rw [if_neg (by rw [mayB_iff]; omega)]
    go_enter Tryz.func24, Tryz.ntmps24
    go_wp2_with fail
    have r0 := (HK.out 0).1.cell0
    have r1 := (HK.out 0).1.cell1
    exact bodyPost_ret (v := .agg #[.int .i64 0, .slice none 0 0]) (by simp [results, Tryz.results24, go_sem, r0, r1]) rfl ⟨rfl, (HK.out 0).2⟩
  · have hd : decide (n < 0) = false := decide_eq_false h0
    by_cases h6 : 6 < n
    · have hd6 : decide (6 < n) = true := decide_eq_true h6
      rw [if_neg (by rw [mayB_iff]; omega)]
      go_enter Tryz.func24, Tryz.ntmps24
      go_wp2_with fail
      have r0 := (HK.out 0).1.cell0
      have r1 := (HK.out 0).1.cell1
      exact bodyPost_ret (v := .agg #[.int .i64 0, .slice none 0 0]) (by simp [results, Tryz.results24, go_sem, r0, r1]) rfl ⟨rfl, (HK.out 0).2⟩
    · have hd6 : decide (6 < n) = false := decide_eq_false h6
      rw [if_pos ((mayB_iff n).2 (by omega))]
      go_enter Tryz.func24, Tryz.ntmps24
      go_wp2_with fail
      have r0 := (HK.out n).1.cell0
      have r1 := (HK.out n).1.cell1
      exact bodyPost_ret (v := .agg #[.int .i64 n, .slice none 0 0]) (by simp [results, Tryz.results24, go_sem, r0, r1]) rfl ⟨rfl, (HK.out n).2⟩
/-- Where a round of shrink stands: what lies before (i, j) is done, (i, j) has been compared with the first k. -/
def stg (m : Nat) (D : Mat) (i j k : Nat) : Mat := fun a b => if a < i ∨ (a = i ∧ b < j) then shr m D a b else if a = i ∧ b = j then least D a b k else D a b
theorem stg_at (m : Nat) (D : Mat) (i j k : Nat) : stg m D i j k i j = least D i j k := by
  unfold stg
  rw [if_neg (by omega), if_pos ⟨rfl, rfl⟩]
theorem stg_zero (m : Nat) (D : Mat) : stg m D 0 0 0 = D := by
  funext a b
  unfold stg
  rw [if_neg (by omega)]
  split
  · rfl
  · rfl
theorem stg_step (m : Nat) (D : Mat) (i j k : Nat) : stg m D i j (k + 1) = upd (stg m D i j k) i j (least D i j (k + 1)) := by
  funext a b
  unfold upd
  by_cases e : a = i ∧ b = j
  · obtain ⟨rfl, rfl⟩ := e
    rw [stg_at, if_pos ⟨rfl, rfl⟩]
  · rw [if_neg e]
    unfold stg
    rw [if_neg e, if_neg e]
theorem stg_same (m : Nat) (D : Mat) (i j k : Nat) (h : least D i j (k + 1) = least D i j k) : stg m D i j (k + 1) = stg m D i j k := by
  rw [stg_step, h]
  funext a b
  unfold upd
  split
  · rename_i e
    rw [e.1, e.2, stg_at]
  · rfl
theorem stg_next (m : Nat) (D : Mat) (i j : Nat) : stg m D i j m = stg m D i (j + 1) 0 := by
  funext a b
  unfold stg
  by_cases e : a < i ∨ (a = i ∧ b < j)
  · rw [if_pos e, if_pos (by omega)]
  · rw [if_neg e]
    by_cases e2 : a = i ∧ b = j
    · rw [if_pos e2, if_pos (by omega)]
      rfl
    · rw [if_neg e2, if_neg (by omega)]
      split
      · rfl
      · rfl
theorem stg_row (m : Nat) (D : Mat) (i : Nat) : Same m (stg m D i m 0) (stg m D (i + 1) 0 0) := fun a b _ hb => by
  unfold stg
  by_cases e : a < i ∨ (a = i ∧ b < m)
  · rw [if_pos e, if_pos (by omega)]
  · rw [if_neg e, if_neg (by omega), if_neg (by omega)]
    split
    · rfl
    · rfl
theorem stg_all (m : Nat) (D : Mat) : Same m (stg m D m 0 0) (shr m D) := fun a b ha _ => by
  unfold stg
  rw [if_pos (by omega)]
/-- All that was come to fits. -/
def FitUp (m : Nat) (V : Mat) (i j : Nat) : Prop := ∀ a b, a < m → b < m → (a < i ∨ (a = i ∧ b < j)) → -far a b ≤ V a b
theorem fitUp_zero (m : Nat) (V : Mat) : FitUp m V 0 0 := fun _ _ _ _ h => by omega
theorem fitUp_step {m : Nat} {V : Mat} {i j : Nat} (h : FitUp m V i j) (hx : -far i j ≤ V i j) : FitUp m V i (j + 1) := fun a b ha hb hab => by
  by_cases e : a = i ∧ b = j
  · obtain ⟨rfl, rfl⟩ := e
    exact hx
  · exact h a b ha hb (by omega)
theorem fitUp_row {m : Nat} {V : Mat} {i : Nat} (h : FitUp m V i m) : FitUp m V (i + 1) 0 := fun a b ha hb hab => h a b ha hb (by omega)
theorem fitUp_all {m : Nat} {V : Mat} (h : FitUp m V m 0) : Fits m V := fun a b ha hb => h a b ha hb (.inl ha)
theorem mul_idx {m i k : Nat} (hm : m ≤ 7) (hi : i < m) (hk : k < m) : (i : Int) * (m : Int) + (k : Int) = ((i * m + k : Nat) : Int) ∧ 0 ≤ (i : Int) * (m : Int) ∧ (i : Int) * (m : Int) ≤ 100 ∧ i * m + k < m * m := by
  have h1 := spot_lt hi hk
  have h2 : i * m ≤ 7 * 7 := Nat.mul_le_mul (by omega) hm
  refine ⟨by rw [Int.natCast_add, Int.natCast_mul], ?_, ?_, h1⟩
  · rw [← Int.natCast_mul]; omega
  · rw [← Int.natCast_mul]; omega
/-- The bounds are whole numbers' sums. -/
def InR (m : Nat) (D : Mat) : Prop := ∀ i j, i < m → j < m → -2305843009213693952 ≤ D i j ∧ D i j ≤ 2305843009213693952
theorem least_in {m : Nat} {D : Mat} (h : InR m D) {i j : Nat} (hi : i < m) (hj : j < m) : ∀ k, k ≤ m → -4611686018427387904 ≤ least D i j k ∧ least D i j k ≤ 2305843009213693952
  | 0, _ => by have := h i j hi hj; show _ ≤ D i j ∧ D i j ≤ _; omega
  | k + 1, hk => by
    have h1 := least_in h hi hj k (by omega)
    have h2 := h i k hi (by omega)
    have h3 := h k j (by omega) hj
    show _ ≤ min _ _ ∧ min _ _ ≤ _
    omega
end Go.Proofs.YtlddelnbjihhgaaGreatDoor
