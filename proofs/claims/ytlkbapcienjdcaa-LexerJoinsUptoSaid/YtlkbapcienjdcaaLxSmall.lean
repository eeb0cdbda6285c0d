/- The lexer layer: what a letter, a digit, a sign is. -/
import Derived.Test.YtlkbapcienjdcaaProg
import Derived.Test.YtlkbapcienjdcaaLxRune
import Derived.WalkKit
import Derived.WalkSpells
import Derived.BigQuiet
import Derived.Deep.QuietTactic
import Derived.Below
namespace Go.Proofs.Ytlkbapcienjdcaa
open Go.RowKit
section
def oneL : List UInt8 := [123, 125, 40, 41, 91, 93, 59, 58, 44, 61, 60, 62, 43, 45, 42, 47, 33]
set_option maxHeartbeats 800000 in
theorem isLetter_any (n : Nat) (W : World) : Calls Try.prog 28 #[.int .i32 (n : Int)] W (fun e w' => e = .returned (.bool (letterN n)) ∧ W = w') := by
  go_enter Try.func28, Try.ntmps28
  go_wp2
  all_goals go_ret
  all_goals (refine ⟨?_, rfl⟩; show Ending.returned (Value.bool _) = _; unfold letterN; congr 2; rw [Bool.eq_iff_iff]; simp; omega)
set_option maxHeartbeats 800000 in
theorem isDigit_any (n : Nat) (W : World) : Calls Try.prog 29 #[.int .i32 (n : Int)] W (fun e w' => e = .returned (.bool (digitN n)) ∧ W = w') := by
  go_enter Try.func29, Try.ntmps29
  go_wp2
  all_goals go_ret
  all_goals (refine ⟨?_, rfl⟩; show Ending.returned (Value.bool _) = _; unfold digitN; congr 2; rw [Bool.eq_iff_iff]; simp; omega)
set_option maxHeartbeats 800000 in
theorem letter_any (c : UInt8) (W : World) : Calls Try.prog 18 #[.int .u8 (c.toNat : Int)] W (fun e w' => e = .returned (.bool (letterB c)) ∧ W = w') := by
  go_enter Try.func18, Try.ntmps18
  go_wp2
  all_goals go_ret
  all_goals (refine ⟨?_, rfl⟩; show Ending.returned (Value.bool _) = _; unfold letterB; congr 2; rw [Bool.eq_iff_iff]; simp; omega)
set_option maxHeartbeats 800000 in
theorem digit_any (c : UInt8) (W : World) : Calls Try.prog 19 #[.int .u8 (c.toNat : Int)] W (fun e w' => e = .returned (.bool (digitB c)) ∧ W = w') := by
  go_enter Try.func19, Try.ntmps19
  go_wp2
  all_goals go_ret
  all_goals (refine ⟨?_, rfl⟩; show Ending.returned (Value.bool _) = _; unfold digitB; congr 2; rw [Bool.eq_iff_iff]; simp; omega)
set_option maxHeartbeats 1600000 in
theorem two_any' (s : ByteArray) (W : World) : Calls Try.prog 21 #[.string s] W (fun e w' => e = .returned (.bool (decide (s.data.toList = [61, 61]) || decide (s.data.toList = [33, 61]) || decide (s.data.toList = [60, 61]) || decide (s.data.toList = [62, 61]) || decide (s.data.toList = [38, 38]) || decide (s.data.toList = [124, 124]))) ∧ W = w') := by
  go_enter Try.func21, Try.ntmps21
  go_wp2
  all_goals go_ret
  all_goals (refine ⟨?_, rfl⟩; show Ending.returned (Value.bool _) = _; congr 2; rw [Bool.eq_iff_iff]; simp only [← ByteArray.toList_eq]; simp_all)
theorem signL_iff (l : List UInt8) : signL l = true ↔ (l = [123] ∨ l = [125] ∨ l = [40] ∨ l = [41] ∨ l = [91] ∨ l = [93] ∨ l = [59] ∨ l = [58] ∨ l = [44] ∨ l = [61] ∨ l = [61, 61] ∨ l = [33, 61] ∨ l = [60] ∨ l = [60, 61] ∨ l = [62] ∨ l = [62, 61] ∨ l = [43] ∨ l = [45] ∨ l = [42] ∨ l = [47] ∨ l = [33] ∨ l = [38, 38] ∨ l = [124, 124]) := by
  match l with
  | [] => simp [signL]
  | [a] =>
    simp only [signL, oneB]
    simp
  | [a, b] =>
    simp only [signL, twoB]
    simp
    constructor
    · rintro ((⟨((h | h) | h) | h, k⟩ | ⟨h, k⟩) | ⟨h, k⟩) <;> simp [h, k]
    · rintro (⟨h, k⟩ | ⟨h, k⟩ | ⟨h, k⟩ | ⟨h, k⟩ | ⟨h, k⟩ | ⟨h, k⟩) <;> simp [h, k]
  | a :: b :: c :: r => simp [signL]
set_option maxHeartbeats 1600000 in
theorem isSign_any (s : ByteArray) (W : World) : Calls Try.prog 31 #[.string s] W (fun e w' => e = .returned (.bool (signL s.data.toList)) ∧ W = w') := by
  go_enter Try.func31, Try.ntmps31
  go_wp2
  all_goals go_ret
  all_goals (refine ⟨?_, rfl⟩; show Ending.returned (Value.bool _) = _; congr 2; rw [Bool.eq_iff_iff, signL_iff, ← ByteArray.toList_eq]; simp only [beq_iff_eq, beq_eq_false_iff_ne, ne_eq] at *; simp_all)
/-- The document's two, of what is cut out. -/
theorem two_any (a b : UInt8) (s : ByteArray) (hs : s.data.toList = [a, b]) (W : World) : Calls Try.prog 21 #[.string s] W (fun e w' => e = .returned (.bool (twoB a b)) ∧ W = w') := by
  refine (two_any' s W).mono fun e w' ⟨h1, h2⟩ => ⟨?_, h2⟩
  rw [h1, hs]
  congr 2
  unfold twoB
  rw [Bool.eq_iff_iff]
  simp
  constructor
  · rintro (((((⟨h, k⟩ | ⟨h, k⟩) | ⟨h, k⟩) | ⟨h, k⟩) | ⟨h, k⟩) | ⟨h, k⟩) <;> simp [h, k]
  · rintro ((⟨((h | h) | h) | h, k⟩ | ⟨h, k⟩) | ⟨h, k⟩) <;> simp [h, k]
theorem one_at {k : Nat} (hk : k < 17) : (({ data := #[123, 125, 40, 41, 91, 93, 59, 58, 44, 61, 60, 62, 43, 45, 42, 47, 33] } : ByteArray)[k]'hk) = oneL[k]'hk := rfl
theorem one_yes {c : UInt8} {k : Nat} (hk : k < 17) (h : (((({ data := #[123, 125, 40, 41, 91, 93, 59, 58, 44, 61, 60, 62, 43, 45, 42, 47, 33] } : ByteArray)[k]'hk).toNat : Int) == (c.toNat : Int)) = true) : oneB c = true := by
  have h := eq_of_beq h
  rw [one_at hk] at h
  have e : oneL[k]'hk = c := UInt8.toNat_inj.1 (by omega)
  show oneL.contains c = true
  rw [List.contains_iff_mem, ← e]
  exact List.getElem_mem _
theorem one_no {c : UInt8} {k : Nat} (hk : k < 17) (h : (((({ data := #[123, 125, 40, 41, 91, 93, 59, 58, 44, 61, 60, 62, 43, 45, 42, 47, 33] } : ByteArray)[k]'hk).toNat : Int) == (c.toNat : Int)) = false) : oneL[k]? ≠ some c := by
  have h := ne_of_beq_false h
  rw [one_at hk] at h
  rw [List.getElem?_eq_getElem hk]
  intro e
  exact h (by rw [Option.some.inj e])
theorem one_none {c : UInt8} (h : ∀ j, j < 17 → oneL[j]? ≠ some c) : oneB c = false := by
  cases q : oneB c with
  | false => rfl
  | true =>
    have q' : oneL.contains c = true := q
    rw [List.contains_iff_mem] at q'
    obtain ⟨i, hi, e⟩ := List.getElem_of_mem q'
    exact absurd (by rw [List.getElem?_eq_getElem hi, e]) (h i hi)
set_option maxHeartbeats 1600000 in
theorem one_any (c : UInt8) (W : World) : Calls Try.prog 22 #[.int .u8 (c.toNat : Int)] W (fun e w' => e = .returned (.bool (oneB c)) ∧ W = w') := by
  go_enter Try.func22, Try.ntmps22
  go_wp2
  go_loop [4] (fun i => ∃ k : Nat, k ≤ 17 ∧ i = .int .i64 (k : Int) ∧ ∀ j, j < k → oneL[j]? ≠ some c) (fun i => 17 - (RowKit.intOf i).toNat)
  case atStart => exact ⟨0, by omega, rfl, fun j h => by omega⟩
  case round =>
    obtain ⟨k, hk, rfl, hj⟩ := hrel
    go_wp2
    · have hk2 : k < 17 := by omega
      have h : (((({ data := #[123, 125, 40, 41, 91, 93, 59, 58, 44, 61, 60, 62, 43, 45, 42, 47, 33] } : ByteArray)[k]'(by exact hk2)).toNat : Int) == (c.toNat : Int)) = true := by assumption
      go_ret
      refine ⟨?_, rfl⟩
      rw [one_yes hk2 h]
      rfl
    · have hk2 : k < 17 := by omega
      have h : (((({ data := #[123, 125, 40, 41, 91, 93, 59, 58, 44, 61, 60, 62, 43, 45, 42, 47, 33] } : ByteArray)[k]'(by exact hk2)).toNat : Int) == (c.toNat : Int)) = false := by assumption
      refine ⟨⟨k + 1, by omega, by go_num, fun j hj2 => ?_⟩, by simp [RowKit.intOf]; omega⟩
      rcases Nat.lt_succ_iff_lt_or_eq.1 hj2 with h2 | rfl
      · exact hj j h2
      · exact one_no hk2 h
    · have hk2 : k = 17 := by omega
      subst hk2
      go_ret
      refine ⟨?_, rfl⟩
      rw [one_none hj]
      rfl
end
end Go.Proofs.Ytlkbapcienjdcaa
