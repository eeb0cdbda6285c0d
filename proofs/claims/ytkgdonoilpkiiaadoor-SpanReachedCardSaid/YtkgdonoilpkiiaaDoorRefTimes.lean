/- The contract of the document's product, digit by digit. -/
import Derived.Test.YtkgdonoilpkiiaaDoorRefWalks
import Derived.LoopTactic
namespace Go.Proofs.YtkgdonoilpkiiaaDoor
open Go.RowKit

/-- The product, or that it is above Top. -/
def TimesRet (A B : Int) (w : World) (e : Ending) (w' : World) : Prop :=
  (A * B ≤ 1152921504606846976 ∧ e = .returned (.tuple #[.int .i64 (A * B), .bool true]) ∧ w = w') ∨ (1152921504606846976 < A * B ∧ e = .returned (.tuple #[.int .i64 0, .bool false]) ∧ w = w')

theorem even_step {a b : Int} (h : b % 2 = 0) : a * b = a * 2 * (b / 2) := by
  rw [Int.mul_assoc]; congr 1; omega
theorem odd_step {a b : Int} (h : ¬ b % 2 = 0) : a * b = a + a * 2 * (b / 2) := by
  have e : b = 1 + 2 * (b / 2) := by omega
  have : a * b = a * (1 + 2 * (b / 2)) := by rw [← e]
  rw [this, Int.mul_add, Int.mul_one, Int.mul_assoc]
theorem mul_ge {a b : Int} (ha : 0 ≤ a) (hb : 1 ≤ b) : a ≤ a * b := by
  have := Int.mul_le_mul_of_nonneg_left hb ha
  omega
theorem mul_pos' {a b : Int} (ha : 0 ≤ a) (hb : 0 ≤ b) : 0 ≤ a * b := Int.mul_nonneg ha hb

/-- What holds at a round's head. -/
def TimesRel (A B : Int) (ta tb to : Value) : Prop := ∃ a b out : Int, ta = .int .i64 a ∧ tb = .int .i64 b ∧ to = .int .i64 out ∧ 0 ≤ a ∧ a ≤ 4611686018427387904 ∧ 0 ≤ b ∧ b ≤ 1152921504606846976 ∧ (1 ≤ b → a ≤ 2305843009213693952) ∧ 0 ≤ out ∧ out ≤ 1152921504606846976 ∧ A * B = out + a * b

set_option maxHeartbeats 2000000 in
theorem times_any (A B : Int) (w : World) (a0 : 0 ≤ A) (a1 : A ≤ 1152921504606846976) (b0 : 0 ≤ B) (b1 : B ≤ 1152921504606846976) :
    Calls Tryd.prog 40 #[.int .i64 A, .int .i64 B] w (TimesRet A B w) := by
  have HR : TimesRel A B (.int .i64 A) (.int .i64 B) (.int .i64 0) := ⟨A, B, 0, rfl, rfl, rfl, by omega, by omega, by omega, by omega, by omega, by omega, by omega, by omega⟩
  go_enter Tryd.func40, Tryd.ntmps40
  go_wp2
  go_loop [0, 1, 6] (fun ta tb to => TimesRel A B ta tb to) (fun _ tb _ => (intOf tb).toNat)
  case atStart => exact HR
  case round =>
    clear HR
    obtain ⟨a, b, out, rfl, rfl, rfl, ha0, ha1, hb0, hb1, hab, ho0, ho1, hinv⟩ := hrel
    have HI := Lib.hid hinv
    have HB := Lib.hid hab
    clear hinv hab
    by_cases hlt : 0 < b
    · have ha2 : a ≤ 2305843009213693952 := HB.out (by omega)
      have hm : (b / 2).toNat < b.toNat := by omega
      have HM := Lib.hid hm
      clear hm
      by_cases hodd : b % 2 = 0
      · have h1 : (b % 2 == 1) = false := by simp [hodd]
        have HO := Lib.hid (even_step (a := a) hodd)
        clear hodd
        by_cases hh : 0 < b / 2
        · by_cases hT : 1152921504606846976 < a
          · go_wp2_with (go_at_call 33; refine (top_any _).mono ?_; rintro e w' ⟨rfl, rfl⟩)
            go_ret2
            exact Or.inr ⟨by have := HI.out; rw [HO.out] at this; have := mul_ge (a := a * 2) (b := b / 2) (by omega) (by omega); omega, rfl, rfl⟩
          · have hT' : a ≤ 1152921504606846976 := by omega
            clear hT
            go_wp2_with (go_at_call 33; refine (top_any _).mono ?_; rintro e w' ⟨rfl, rfl⟩)
            exact ⟨⟨_, _, _, rfl, rfl, rfl, by omega, by omega, by omega, by omega, by omega, by omega, by omega, by rw [← HO.out]; exact HI.out⟩, HM.out⟩
        · go_wp2_with (go_at_call 33; refine (top_any _).mono ?_; rintro e w' ⟨rfl, rfl⟩)
          exact ⟨⟨_, _, _, rfl, rfl, rfl, by omega, by omega, by omega, by omega, by omega, by omega, by omega, by rw [← HO.out]; exact HI.out⟩, HM.out⟩
      · have h1 : (b % 2 == 1) = true := by simp; omega
        have HO := Lib.hid (odd_step (a := a) hodd)
        clear hodd
        by_cases hT : 1152921504606846976 < out + a
        · go_wp2_with (go_at_call 33; refine (top_any _).mono ?_; rintro e w' ⟨rfl, rfl⟩)
          go_ret2
          exact Or.inr ⟨by have := HI.out; rw [HO.out] at this; have := mul_pos' (a := a * 2) (b := b / 2) (by omega) (by omega); omega, rfl, rfl⟩
        · have hT' : out + a ≤ 1152921504606846976 := by omega
          clear hT
          by_cases hh : 0 < b / 2
          · go_wp2_with (go_at_call 33; refine (top_any _).mono ?_; rintro e w' ⟨rfl, rfl⟩)
            exact ⟨⟨_, _, _, rfl, rfl, rfl, by omega, by omega, by omega, by omega, by omega, by omega, by omega, by have := HI.out; rw [HO.out] at this; omega⟩, HM.out⟩
          · go_wp2_with (go_at_call 33; refine (top_any _).mono ?_; rintro e w' ⟨rfl, rfl⟩)
            exact ⟨⟨_, _, _, rfl, rfl, rfl, by omega, by omega, by omega, by omega, by omega, by omega, by omega, by have := HI.out; rw [HO.out] at this; omega⟩, HM.out⟩
    · have : b = 0 := by omega
      subst this
      go_wp2
      go_ret2
      exact Or.inl ⟨by have := HI.out; omega, by have := HI.out; simp at this; rw [this]; rfl, rfl⟩
end Go.Proofs.YtkgdonoilpkiiaaDoor
