/- The lexer layer: goesOn, first. -/
import Derived.Test.YtlkbapcienjdcaaLxSmall
import Derived.Lib.OthersKept
import Derived.Lib.Strings
import Derived.Lib.Hide
import Derived.Shelf.Strings.LastIndex
import Derived.Lib.SmallJoins
namespace Go.Proofs.Ytlkbapcienjdcaa
open Go.RowKit
section
variable {c : UInt8} {r : List UInt8}
theorem letter_nat (c : UInt8) : letterN c.toNat = letterB c := rfl
theorem encode_four (n : Nat) : (Utf8.encode (n : Int)).size ≤ 4 := by
  unfold Utf8.encode
  simp only
  generalize (if Utf8.valid (n : Int) = true then (n : Int).toNat else Utf8.runeError) = c
  have h1 : ∀ a : UInt8, (⟨#[a]⟩ : ByteArray).size = 1 := fun _ => rfl
  have h2 : ∀ a b : UInt8, (⟨#[a, b]⟩ : ByteArray).size = 2 := fun _ _ => rfl
  have h3 : ∀ a b c : UInt8, (⟨#[a, b, c]⟩ : ByteArray).size = 3 := fun _ _ _ => rfl
  have h4 : ∀ a b c d : UInt8, (⟨#[a, b, c, d]⟩ : ByteArray).size = 4 := fun _ _ _ _ => rfl
  repeat' split
  all_goals simp only [h1, h2, h3, h4]
  all_goals omega
theorem digit_nat (c : UInt8) : digitN c.toNat = digitB c := rfl
set_option maxRecDepth 100000 in
set_option maxHeartbeats 3200000 in
theorem goesOn_any (b : ByteArray) (c : UInt8) (r : List UInt8) (n : Nat) (hbs : b.size ≤ 5000) (hl : b.data.toList = c :: r) (W : World) : Calls Try.prog 26 #[.string b, .int .i32 (n : Int)] W (fun e w' => e = .returned (.bool (goesL b.data.toList n)) ∧ W = w') := by
  have hb : 0 < b.size := by rw [← list_size, hl]; simp
  have hc : b[0] = c := by rw [← get_list b 0 hb]; simp [hl]
  have hlt : ((b[0]).toNat : Int) ≤ 255 := by have := (b[0]).toNat_lt; omega
  obtain ⟨k, hk⟩ : ∃ k, (b[0]).toNat = k := ⟨_, rfl⟩
  rw [hk] at hlt
  have hck : c.toNat = k := by rw [← hc]; exact hk
  clear hc
  have hsum : ¬ (b.size + (Utf8.encode (n : Int)).size > 9223372036854775807) := by have := encode_four n; omega
  have HG := Lib.hid hl
  clear hbs hl
  by_cases h1 : c = 35
  · have h35 : k = 35 := by rw [← hck, h1]; rfl
    have d1 : ((k : Int) == 35) = true := by simp; omega
    have HQ : Hid (goesL b.data.toList n = decide (n ≠ 10)) := Lib.hid (by rw [HG.out, goes_on_kind (.inl h1), if_pos h1])
    clear h1 hck hsum h35
    go_enter Try.func26, Try.ntmps26
    go_wp2_with (first
      | (go_at_call 28; with_reducible refine (isLetter_any _ _).mono ?_; rintro e w1 ⟨rfl, rfl⟩)
      | (go_at_call 29; with_reducible refine (isDigit_any _ _).mono ?_; rintro e w1 ⟨rfl, rfl⟩)
      | (go_at_call 31; with_reducible refine (isSign_any _ _).mono ?_; rintro e w1 ⟨rfl, rfl⟩))
    go_ret
    refine ⟨?_, rfl⟩
    rw [HQ.out]
    show Ending.returned (Value.bool _) = _
    congr 2
    rw [Bool.eq_iff_iff]
    simp
    try omega
  · have h35 : ¬ k = 35 := fun e => h1 (UInt8.toNat_inj.1 (by rw [hck, e]; rfl))
    have d1 : ((k : Int) == 35) = false := by simp; omega
    cases h2 : letterB c
    · have l1 : letterN k = false := by rw [← hck]; exact h2
      cases h3 : digitB c
      · have l2 : digitN k = false := by rw [← hck]; exact h3
        have HQ : Hid (goesL b.data.toList n = signL (b ++ Utf8.encode (n : Int)).data.toList) := Lib.hid (by rw [HG.out, goes_sign (by rintro (h | h | h); exact h1 h; rw [h2] at h; cases h; rw [h3] at h; cases h), Joins.data_append, HG.out])
        clear h1 h2 h3 h35 hck
        go_enter Try.func26, Try.ntmps26
        go_wp2_with (first
          | (go_at_call 28; with_reducible refine (isLetter_any _ _).mono ?_; rintro e w1 ⟨rfl, rfl⟩)
          | (go_at_call 29; with_reducible refine (isDigit_any _ _).mono ?_; rintro e w1 ⟨rfl, rfl⟩)
          | (go_at_call 31; with_reducible refine (isSign_any _ _).mono ?_; rintro e w1 ⟨rfl, rfl⟩))
        go_ret
        exact ⟨by rw [HQ.out]; rfl, rfl⟩
      · have l2 : digitN k = true := by rw [← hck]; exact h3
        have HQ : Hid (goesL b.data.toList n = digitN n) := Lib.hid (by rw [HG.out, goes_on_kind (.inr (.inr h3)), if_neg h1, h2]; rfl)
        clear h1 h2 h3 h35 hck hsum
        go_enter Try.func26, Try.ntmps26
        go_wp2_with (first
          | (go_at_call 28; with_reducible refine (isLetter_any _ _).mono ?_; rintro e w1 ⟨rfl, rfl⟩)
          | (go_at_call 29; with_reducible refine (isDigit_any _ _).mono ?_; rintro e w1 ⟨rfl, rfl⟩)
          | (go_at_call 31; with_reducible refine (isSign_any _ _).mono ?_; rintro e w1 ⟨rfl, rfl⟩))
        go_ret
        exact ⟨by rw [HQ.out]; rfl, rfl⟩
    · have l1 : letterN k = true := by rw [← hck]; exact h2
      have HQ : Hid (goesL b.data.toList n = ((letterN n || digitN n) || decide (n = 95))) := Lib.hid (by rw [HG.out, goes_on_kind (.inr (.inl h2)), if_neg h1, if_pos h2])
      have H95 : Hid (((n : Int) == 95) = decide (n = 95)) := Lib.hid (by rw [Bool.eq_iff_iff]; simp; omega)
      clear h1 h2 h35 hck hsum
      cases q1 : letterN n <;> cases q2 : digitN n
      all_goals rw [q1, q2] at HQ
      all_goals go_enter Try.func26, Try.ntmps26
      all_goals go_wp2_with (first
        | (go_at_call 28; with_reducible refine (isLetter_any _ _).mono ?_; rintro e w1 ⟨rfl, rfl⟩)
        | (go_at_call 29; with_reducible refine (isDigit_any _ _).mono ?_; rintro e w1 ⟨rfl, rfl⟩)
        | (go_at_call 31; with_reducible refine (isSign_any _ _).mono ?_; rintro e w1 ⟨rfl, rfl⟩))
      all_goals go_ret
      all_goals (refine ⟨?_, rfl⟩; rw [HQ.out]; first | rfl | (show Ending.returned (Value.bool _) = _; rw [H95.out]; rfl))
end
end Go.Proofs.Ytlkbapcienjdcaa
