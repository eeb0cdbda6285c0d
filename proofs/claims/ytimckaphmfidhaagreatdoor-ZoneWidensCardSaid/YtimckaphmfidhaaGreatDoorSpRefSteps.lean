/- The contracts of the document's lower and Narrow; and what its widening does with steps that are turned about. -/
import Derived.Test.YtimckaphmfidhaaGreatDoorSpRefJoin
import Derived.Test.YtimckaphmfidhaaGreatDoorGSp
import Derived.Test.YtimckaphmfidhaaGreatDoorRWalks
namespace Go.Proofs.YtimckaphmfidhaaGreatDoor.Sp
open Go.RowKit
attribute [local go_sem ↓] Go.wp_at_zero Go.wp_at_succ eq24 eq23 neq24 eqg24 eqg23

/-- The numbers of a list, as a function. -/
def atL (xs : List Int) (j : Nat) : Int := xs.getD j 0
/-- One step, as the document takes it. -/
theorem dnF_step {f : Nat → Int} {n : Int} {k : Nat} (hn : n ≤ 1152921504606846976) :
    (inB (f k) = true ∧ f k ≤ n ∧ dnF f n k < f k ∧ dnF f n (k + 1) = f k) ∨ (inB (f k) = true ∧ f k ≤ n ∧ ¬ dnF f n k < f k ∧ dnF f n (k + 1) = dnF f n k) ∨ (inB (f k) = true ∧ ¬ f k ≤ n ∧ dnF f n (k + 1) = dnF f n k) ∨ (inB (f k) = false ∧ dnF f n (k + 1) = dnF f n k) := by
  have lo : -1152921504606846976 ≤ dnF f n k := by
    induction k with
    | zero => exact Int.le_refl _
    | succ k ih => by_cases h : f k ≤ n
                   · rw [dnF_yes h]; omega
                   · rw [dnF_no h]; exact ih
  cases hb : inB (f k)
  · right; right; right
    refine ⟨rfl, ?_⟩
    by_cases h : f k ≤ n
    · rw [dnF_yes h]
      have : ¬ (-1152921504606846976 ≤ f k ∧ f k ≤ 1152921504606846976) := fun c => by rw [inB_yes c.1 c.2] at hb; cases hb
      omega
    · exact dnF_no h
  · by_cases h : f k ≤ n
    · have e := dnF_yes h
      by_cases g : dnF f n k < f k
      · left; exact ⟨rfl, h, g, by omega⟩
      · right; left; exact ⟨rfl, h, g, by omega⟩
    · right; right; left; exact ⟨rfl, h, dnF_no h⟩

set_option maxHeartbeats 400000 in
theorem rlower_none (n : Int) (A : Option Addr) (cap : Nat) (w : World) : Calls Tryz.prog 97 #[.slice A 0 cap, .int .i64 n] w fun e w' => e = .returned (.int .i64 (-1152921504606846976)) ∧ w = w' := by
  go_enter Tryz.func97, Tryz.ntmps97
  go_wp2_with (go_at_call 122; refine (rtop_any _).mono ?_; rintro e w' ⟨rfl, rfl⟩)
  go_loop [5, 6] (fun t i => t = .int .i64 (-1152921504606846976) ∧ i = .int .i64 0) (fun _ _ => 0)
  case atStart => exact ⟨rfl, rfl⟩
  case round =>
    obtain ⟨rfl, rfl⟩ := hrel
    go_wp2_with fail
    go_ret
    exact ⟨rfl, rfl⟩

set_option maxHeartbeats 1600000 in
theorem rlower_some (f : Nat → Int) (n : Int) (b off m cap : Nat) (w : World) (hn : n ≤ 1152921504606846976) (hz : m ≤ 4611686018427387904) (cells : ∀ j, j < m → w.cell? ⟨b, off + j, none⟩ = some (.int .i64 (f j))) :
    Calls Tryz.prog 97 #[.slice (some ⟨b, off, none⟩) m cap, .int .i64 n] w fun e w' => e = .returned (.int .i64 (dnF f n m)) ∧ w = w' := by
  have HC := Lib.hid cells
  have HN := Lib.hid hn
  clear cells hn
  go_enter Tryz.func97, Tryz.ntmps97
  go_wp2_with (go_at_call 122; refine (rtop_any _).mono ?_; rintro e w' ⟨rfl, rfl⟩)
  go_loop [5, 6] (fun t i => ∃ k : Nat, k ≤ m ∧ i = .int .i64 k ∧ t = .int .i64 (dnF f n k)) (fun _ i => m - (intOf i).toNat)
  case atStart => exact ⟨0, Nat.zero_le _, rfl, rfl⟩
  case round =>
    obtain ⟨k, hk, rfl, rfl⟩ := hrel
    by_cases hlt : k < m
    · have hcell := HC.out k hlt
      rcases dnF_step (f := f) (k := k) HN.out with ⟨h1, h2, h3, h4⟩ | ⟨h1, h2, h3, h4⟩ | ⟨h1, h2, h4⟩ | ⟨h1, h4⟩
      · have HS := Lib.hid h4
        clear h4
        go_wp2_with (go_at_call 96; refine (rin_any _ _).mono ?_; rintro e w' ⟨rfl, rfl⟩)
        go_round
        case rel => exact ⟨k + 1, by omega, by go_num, by rw [HS.out]⟩
        case measure => simp [intOf]; omega
      · have HS := Lib.hid h4
        clear h4
        go_wp2_with (go_at_call 96; refine (rin_any _ _).mono ?_; rintro e w' ⟨rfl, rfl⟩)
        go_round
        case rel => exact ⟨k + 1, by omega, by go_num, by rw [HS.out]⟩
        case measure => simp [intOf]; omega
      · have HS := Lib.hid h4
        have h2' : decide (f k ≤ n) = false := decide_eq_false h2
        clear h4 h2
        go_wp2_with (go_at_call 96; refine (rin_any _ _).mono ?_; rintro e w' ⟨rfl, rfl⟩)
        go_round
        case rel => exact ⟨k + 1, by omega, by go_num, by rw [HS.out]⟩
        case measure => simp [intOf]; omega
      · have HS := Lib.hid h4
        clear h4
        go_wp2_with (go_at_call 96; refine (rin_any _ _).mono ?_; rintro e w' ⟨rfl, rfl⟩)
        go_round
        case rel => exact ⟨k + 1, by omega, by go_num, by rw [HS.out]⟩
        case measure => simp [intOf]; omega
    · obtain rfl : k = m := by omega
      go_wp2_with fail
      go_ret
      exact ⟨rfl, rfl⟩

theorem rlower_any (f : Nat → Int) (n : Int) (A : Option Addr) (m cap : Nat) (w : World) (hn : n ≤ 1152921504606846976) (hz : m ≤ 4611686018427387904) (h : Ints w A m f) :
    Calls Tryz.prog 97 #[.slice A m cap, .int .i64 n] w fun e w' => e = .returned (.int .i64 (dnF f n m)) ∧ w = w' := by
  match m with
  | 0 => exact rlower_none n A cap w
  | m + 1 =>
    obtain ⟨b, off, rfl, -, hc⟩ := h (by omega)
    exact rlower_some f n b off (m + 1) cap w hn hz hc
theorem rlower_own {w : World} {base : Nat} {v : Value} (xs : List Int) (n : Int) (hn : n ≤ 1152921504606846976) (h : w.ownsRow base 3 1 v xs.length (xs.map (Value.int .i64))) (hz : xs.length ≤ 100) : Calls Tryz.prog 97 #[v, .int .i64 n] w fun e w' => e = .returned (.int .i64 (dnF (atL xs) n xs.length)) ∧ w = w' := by
  obtain ⟨A, cap, rfl, -, hI⟩ := ints_of_own h
  exact rlower_any _ n A _ cap w hn (by omega) hI

/-- The steps that are whole numbers, turned about. -/
def negs (f : Nat → Int) : Nat → List Int
  | 0 => []
  | k + 1 => if inB (f k) = true then negs f k ++ [-(f k)] else negs f k
theorem negs_yes {f : Nat → Int} {k : Nat} (h : inB (f k) = true) : negs f (k + 1) = negs f k ++ [-(f k)] := if_pos h
theorem negs_no {f : Nat → Int} {k : Nat} (h : inB (f k) = false) : negs f (k + 1) = negs f k := if_neg (by rw [h]; simp)
theorem negs_len (f : Nat → Int) (k : Nat) : (negs f k).length ≤ k := by
  induction k with
  | zero => exact Nat.le_refl _
  | succ k ih =>
    cases h : inB (f k)
    · rw [negs_no h]; omega
    · rw [negs_yes h, List.length_append]; simp; omega
theorem dnF_congr {f g : Nat → Int} {n : Int} : ∀ k, (∀ j, j < k → f j = g j) → dnF f n k = dnF g n k
  | 0, _ => rfl
  | k + 1, h => by
    show (if f k ≤ n then max (dnF f n k) (f k) else dnF f n k) = (if g k ≤ n then max (dnF g n k) (g k) else dnF g n k)
    rw [h k (by omega), dnF_congr k (fun j hj => h j (by omega))]
theorem dnF_snoc (xs : List Int) (x n : Int) : dnF (atL (xs ++ [x])) n (xs ++ [x]).length = (if x ≤ n then max (dnF (atL xs) n xs.length) x else dnF (atL xs) n xs.length) := by
  rw [List.length_append]
  show (if atL (xs ++ [x]) xs.length ≤ n then max (dnF _ n xs.length) (atL (xs ++ [x]) xs.length) else dnF _ n xs.length) = _
  have e : atL (xs ++ [x]) xs.length = x := by simp [atL, List.getD]
  have c : dnF (atL (xs ++ [x])) n xs.length = dnF (atL xs) n xs.length := dnF_congr _ (fun j hj => by simp [atL, List.getD, List.getElem?_append_left hj])
  rw [e, c]
theorem up_turned (f : Nat → Int) (n : Int) (hn : -1152921504606846976 ≤ n) (k : Nat) : -(dnF (atL (negs f k)) (-n) (negs f k).length) = upF f n k := by
  induction k with
  | zero => rfl
  | succ k ih =>
    have hi : upF f n k ≤ 1152921504606846976 := by
      clear ih
      induction k with
      | zero => exact Int.le_refl _
      | succ k ih => by_cases h : n ≤ f k
                     · rw [upF_yes h]; omega
                     · rw [upF_no h]; exact ih
    cases hb : inB (f k)
    · rw [negs_no hb, ih]
      have : ¬ (-1152921504606846976 ≤ f k ∧ f k ≤ 1152921504606846976) := fun c => by rw [inB_yes c.1 c.2] at hb; cases hb
      by_cases h : n ≤ f k
      · rw [upF_yes h]; omega
      · rw [upF_no h]
    · rw [negs_yes hb, dnF_snoc]
      by_cases h : n ≤ f k
      · rw [upF_yes h, if_pos (by omega)]; omega
      · rw [upF_no h, if_neg (by omega)]; exact ih
end Go.Proofs.YtimckaphmfidhaaGreatDoor.Sp
