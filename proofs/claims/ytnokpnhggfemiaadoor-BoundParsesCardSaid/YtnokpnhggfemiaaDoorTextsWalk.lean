/- The walk of BoundTexts: it returns true at any number. -/
import Derived.Test.YtnokpnhggfemiaaDoorAlive
import Derived.Test.YtnokpnhggfemiaaDoorRefDigits
import Derived.Test.YtnokpnhggfemiaaDoorNumerals
namespace Go.Proofs.YtnokpnhggfemiaaDoor
open Go.RowKit

theorem near_near (x : Int) : nearZ (nearZ x) = nearZ x := by
  rcases nearZ_cases x with h1 | h1 | h1 <;> rcases nearZ_cases (nearZ x) with h2 | h2 | h2 <;> omega

theorem none_no_num (v : Int) : Lib.atoiAll noneL ≠ .ok v := by
  have e : Lib.atoiAll noneL = Lib.signless (Lib.parseMag noneL) := Lib.atoiAll_plain 110 [111, 110, 101] (by decide) (by decide)
  rw [e]
  intro h
  cases h

/-- A finite bound's digits are not the word none. -/
theorem itoa_not_none (n : Int) (h0 : -9223372036854775808 < n) (h1 : n ≤ 9223372036854775807) : Lib.itoa n ≠ noneL := fun e => none_no_num n (by rw [← e]; exact atoi_itoa n h0 h1)

theorem itoa_size (n : Int) (h0 : -9223372036854775808 < n) (h1 : n ≤ 9223372036854775807) : (⟨(Lib.itoa n).toArray⟩ : ByteArray).size ≤ 21 := by
  show (Lib.itoa n).toArray.size ≤ 21
  rw [List.size_toArray]
  unfold Lib.itoa
  by_cases h : n < 0
  · rw [if_pos h, List.length_cons, Lib.decDigits_length]
    have := Lib.nDigits_le20 n.natAbs (by omega)
    omega
  · rw [if_neg h, Lib.decDigits_length]
    have := Lib.nDigits_le20 n.toNat (by omega)
    omega

/-- Of a finite bound that Text wrote. -/
theorem parse_itoa (n : Int) (w : World) (ht : Tabs w) (h0 : -2305843009213693952 ≤ n) (h1 : n ≤ 2305843009213693952) : Calls Tryd.prog 23 #[.string ⟨(Lib.itoa n).toArray⟩] w (RetNum n 0 w) := by
  have hn : nearZ n = n := by rcases nearZ_cases n with h | h | h <;> omega
  have ht' : textL n = Lib.itoa n := by unfold textL; rw [hn, if_neg (by omega)]
  have h := itoa_not_none n (by omega) (by omega)
  have hz := itoa_size n (by omega) (by omega)
  refine parse_ok _ n w ht ?_ (by omega) (by rw [List.toList_toArray]; exact atoi_itoa n (by omega) (by omega)) ?_
  · rw [Lib.toList_data, List.toList_toArray]
    show (Lib.itoa n == noneL) = false
    simpa using h
  · rw [Lib.toList_data, List.toList_toArray, ht']; simp

theorem parse_text (b : Int) (w : World) (ht : Tabs w) : Calls Tryd.prog 23 #[.string ⟨(textL b).toArray⟩] w fun e w' => e = .returned (.tuple #[.int .i64 (nearZ b), .int .i64 0]) ∧ Below w.heap.size w w' := by
  by_cases h : nearZ b = 4611686018427387904
  · rw [show textL b = noneL from if_pos h, h]
    exact parse_none w
  · rw [show textL b = Lib.itoa (nearZ b) from if_neg h]
    obtain ⟨h0, h1⟩ := nearZ_fin h
    exact parse_itoa (nearZ b) w ht h0 h1

set_option maxHeartbeats 1000000 in
theorem texts_walk (b : Int) (w : World) (ht : Tabs w) : Calls Tryd.prog 6 #[.int .i64 b] w (RetTrue w) := by
  have Ht := Lib.hid ht
  clear ht
  go_enter Tryd.func6, Tryd.ntmps6
  go_wp2_with fail
  refine (text_any b w Ht.out).mono ?_
  rintro e w1 ⟨rfl, hb1⟩
  have HB1 := Lib.hid hb1
  clear hb1
  go_wp2_with fail
  refine (parse_text b w1 (Ht.out.stays HB1.out)).mono ?_
  rintro e w2 ⟨rfl, hb2⟩
  have HB2 := Lib.hid (below_trans HB1.out hb2)
  clear hb2
  go_wp2_with fail
  refine (alive_any w2 (Ht.out.stays HB2.out)).mono ?_
  rintro e w3 ⟨rfl, hb3⟩
  have HB3 := Lib.hid (below_trans HB2.out hb3)
  clear hb3
  go_wp2_with (first | (go_at_call 24; refine (rtext_any _ _).mono ?_; rintro e w' ⟨rfl, rfl⟩) | (go_at_call 18; refine (rnear_any _ _).mono ?_; rintro e w' ⟨rfl, rfl⟩))
  go_ret
  exact ⟨rfl, HB3.out⟩
end Go.Proofs.YtnokpnhggfemiaaDoor
