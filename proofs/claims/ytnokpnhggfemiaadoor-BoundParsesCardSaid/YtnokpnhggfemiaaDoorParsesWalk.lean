/- The walk of BoundParses: it returns true at any text. -/
import Derived.Test.YtnokpnhggfemiaaDoorRefParse
import Derived.Test.YtnokpnhggfemiaaDoorTextsWalk
namespace Go.Proofs.YtnokpnhggfemiaaDoor
open Go.RowKit

theorem loopZ_val : ∀ (l : List UInt8) (acc : Nat), (∀ c ∈ l, isDig c) → val acc l ≤ 2305843009213693952 → loopZ l acc = some (val acc l : Int)
  | [], _, _, _ => rfl
  | c :: r, acc, hd, h => by
    have hc := hd c (List.mem_cons_self ..)
    have hl := val_le r (acc * 10 + (c.toNat - 48))
    have hv : val acc (c :: r) = val (acc * 10 + (c.toNat - 48)) r := rfl
    rw [hv] at h ⊢
    unfold isDig at hc
    rw [loopZ_on (by omega) (by omega) (by omega)]
    have e : (acc : Int) * 10 + ((c.toNat : Int) - 48) = ((acc * 10 + (c.toNat - 48) : Nat) : Int) := by omega
    rw [e]
    exact loopZ_val r _ (fun d hd' => hd d (List.mem_cons_of_mem _ hd')) h

theorem loopZ_dec (u : Nat) (h : u ≤ 2305843009213693952) : loopZ (Lib.decDigits u) 0 = some (u : Int) := by
  have := loopZ_val (Lib.decDigits u) 0 (decDigits_dig u) (by rw [val_decDigits]; exact h)
  rw [val_decDigits] at this
  exact this

theorem loopZ_bd : ∀ (l : List UInt8) (acc n : Int), 0 ≤ acc → acc ≤ 2305843009213693959 → loopZ l acc = some n → 0 ≤ n ∧ n ≤ 2305843009213693959
  | [], acc, n, h0, h1, h => by
    simp only [loopZ, Option.some.injEq] at h
    omega
  | c :: r, acc, n, h0, h1, h => by
    by_cases hs : (c.toNat : Int) < 48 ∨ 57 < (c.toNat : Int) ∨ 230584300921369395 < acc
    · rw [loopZ_stop hs] at h; cases h
    · rw [loopZ_on (by omega) (by omega) (by omega)] at h
      exact loopZ_bd r _ n (by omega) (by omega) h

/-- A finite bound's digits. -/
def IsNum (l : List UInt8) : Prop := ∃ n : Int, -2305843009213693952 ≤ n ∧ n ≤ 2305843009213693952 ∧ Lib.itoa n = l

theorem endZ_none {l : List UInt8} (h : ¬ IsNum l) {n : Int} (h0 : -2305843009213693959 ≤ n) (h1 : n ≤ 2305843009213693959) : endZ l n = none := by
  apply if_neg
  rintro ⟨hr, hi⟩
  have hr := of_decide_eq_true hr
  exact h ⟨n, by omega, by omega, hi⟩

theorem rparse_num (n : Int) (w : World) (h0 : -2305843009213693952 ≤ n) (h1 : n ≤ 2305843009213693952) : Calls Tryd.prog 25 #[.string ⟨(Lib.itoa n).toArray⟩] w fun e w' => e = calcRet n 0 ∧ w = w' := by
  have hz := itoa_size n (by omega) (by omega)
  have hn := itoa_not_none n (by omega) (by omega)
  have hs : ((⟨(Lib.itoa n).toArray⟩ : ByteArray).toList == [110, 111, 110, 101]) = false := by
    rw [Lib.toList_data, List.toList_toArray]
    show (Lib.itoa n == noneL) = false
    simpa using hn
  have hr : rightB n = true := decide_eq_true (Or.inr ⟨h0, h1⟩)
  by_cases h : n < 0
  · have e : Lib.itoa n = 45 :: Lib.decDigits n.natAbs := if_pos h
    have he : endZ (Lib.itoa n) n = some n := if_pos ⟨hr, rfl⟩
    have hd : (⟨(Lib.itoa n).toArray⟩ : ByteArray).data.toList.drop 1 = Lib.decDigits n.natAbs := by rw [List.toList_toArray, e]; rfl
    have hp : 0 < (⟨(Lib.itoa n).toArray⟩ : ByteArray).size := by show 0 < (Lib.itoa n).toArray.size; rw [e]; simp
    refine (rparse_neg ⟨(Lib.itoa n).toArray⟩ w (by omega) hs hp ?_).mono ?_
    · have : (⟨(Lib.itoa n).toArray⟩ : ByteArray)[0] = 45 := by
        show (Lib.itoa n).toArray[0]'hp = 45
        simp [e]
      rw [this]; rfl
    · rintro e' w' ⟨he', rfl⟩
      rw [hd, loopZ_dec _ (by omega), Lib.toList_data, List.toList_toArray] at he'
      have e2 : (some (n.natAbs : Int)).bind (fun m => endZ (Lib.itoa n) (-m)) = some n := by
        show endZ (Lib.itoa n) (-(n.natAbs : Int)) = some n
        rw [show -(n.natAbs : Int) = n by omega]; exact he
      rw [e2] at he'
      exact ⟨he', rfl⟩
  · have e : Lib.itoa n = Lib.decDigits n.toNat := if_neg h
    have he : endZ (Lib.itoa n) n = some n := if_pos ⟨hr, rfl⟩
    cases hd : Lib.decDigits n.toNat with
    | nil => exact absurd hd (decDigits_ne _)
    | cons c r =>
      have hc := decDigits_dig n.toNat c (by rw [hd]; exact List.mem_cons_self ..)
      unfold isDig at hc
      have hp : 0 < (⟨(Lib.itoa n).toArray⟩ : ByteArray).size := by show 0 < (Lib.itoa n).toArray.size; rw [e, hd]; simp
      refine (rparse_pos ⟨(Lib.itoa n).toArray⟩ w (by omega) hs hp ?_).mono ?_
      · have : (⟨(Lib.itoa n).toArray⟩ : ByteArray)[0] = c := by
          show (Lib.itoa n).toArray[0]'hp = c
          simp [e, hd]
        rw [this]; simp; omega
      · rintro e' w' ⟨he', rfl⟩
        rw [List.toList_toArray, e, loopZ_dec _ (by omega), Lib.toList_data, List.toList_toArray, ← e] at he'
        have e2 : (some (n.toNat : Int)).bind (endZ (Lib.itoa n)) = some n := by
          show endZ (Lib.itoa n) (n.toNat : Int) = some n
          rw [show (n.toNat : Int) = n by omega]; exact he
        rw [e2] at he'
        exact ⟨he', rfl⟩

theorem rparse_off (s : ByteArray) (w : World) (hz : s.size ≤ 100) (hs : (s.toList == [110, 111, 110, 101]) = false) (h : ¬ IsNum s.toList) : Calls Tryd.prog 25 #[.string s] w fun e w' => e = calcRet 0 1 ∧ w = w' := by
  have key : ∀ l : List UInt8, (loopZ l 0).bind (endZ s.toList) = none := fun l => by
    cases hl : loopZ l 0 with
    | none => rfl
    | some n =>
      have := loopZ_bd l 0 n (by omega) (by omega) hl
      exact endZ_none h (by omega) (by omega)
  have key' : ∀ l : List UInt8, (loopZ l 0).bind (fun n => endZ s.toList (-n)) = none := fun l => by
    cases hl : loopZ l 0 with
    | none => rfl
    | some n =>
      have := loopZ_bd l 0 n (by omega) (by omega) hl
      exact endZ_none h (by omega) (by omega)
  rcases Nat.eq_zero_or_pos s.size with h0 | hp
  · refine (rparse_empty s w hs h0).mono ?_
    rintro e w' ⟨he, rfl⟩
    rw [key] at he
    exact ⟨he, rfl⟩
  · cases hc : ((s[0].toNat : Int) == 45)
    · refine (rparse_pos s w hz hs hp hc).mono ?_
      rintro e w' ⟨he, rfl⟩
      rw [key] at he
      exact ⟨he, rfl⟩
    · refine (rparse_neg s w hz hs hp hc).mono ?_
      rintro e w' ⟨he, rfl⟩
      rw [key'] at he
      exact ⟨he, rfl⟩

theorem parse_wrong (s : ByteArray) (w : World) (ht : Tabs w) (hz : s.size ≤ 100) (hs : (s.toList == [110, 111, 110, 101]) = false) (h : ¬ IsNum s.toList) : Calls Tryd.prog 23 #[.string s] w (RetNum 0 1 w) := by
  by_cases hv : ∃ v, Lib.atoiAll s.data.toList = .ok v
  · obtain ⟨v, hv⟩ := hv
    refine parse_off s v w ht hs (by omega) hv ?_
    rw [beq_eq_false_iff_ne]
    intro e
    by_cases hn : nearZ v = 4611686018427387904
    · rw [show textL v = noneL from if_pos hn] at e
      rw [← e] at hs
      exact absurd hs (by decide)
    · rw [show textL v = Lib.itoa (nearZ v) from if_neg hn] at e
      obtain ⟨h0, h1⟩ := nearZ_fin hn
      exact h ⟨nearZ v, h0, h1, e⟩
  · exact parse_bad s w ht hs (by omega) (fun v hv' => hv ⟨v, hv'⟩)

set_option maxHeartbeats 1000000 in
theorem parses_long (s : ByteArray) (w : World) (ht : Tabs w) (hl : s.size ≤ 9223372036854775807) (h : 100 < s.size) : Calls Tryd.prog 7 #[.string s] w (RetTrue w) := by
  have HA := Lib.hid (alive_any w ht)
  clear ht
  go_enter Tryd.func7, Tryd.ntmps7
  go_wp2_with (go_at_call 12; refine HA.out.mono ?_; rintro e w' ⟨rfl, hb⟩)
  go_ret
  exact ⟨rfl, by assumption⟩

set_option maxHeartbeats 1000000 in
theorem parses_off (s : ByteArray) (w : World) (ht : Tabs w) (hz : s.size ≤ 100) (hs : (s.toList == [110, 111, 110, 101]) = false) (h : ¬ IsNum s.toList) : Calls Tryd.prog 7 #[.string s] w (RetTrue w) := by
  have Ht := Lib.hid ht
  have h1 : Calls Tryd.prog 23 #[.string s] w fun e w' => e = .returned (.tuple #[.int .i64 0, .int .i64 1]) ∧ Below w.heap.size w w' := parse_wrong s w ht hz hs h
  have H1 := Lib.hid h1
  have h2 : ∀ w : World, Calls Tryd.prog 25 #[.string s] w fun e w' => e = .returned (.tuple #[.int .i64 0, .int .i64 1]) ∧ w = w' := fun w => rparse_off s w hz hs h
  have H2 := Lib.hid h2
  clear ht h1 h2 hs h
  go_enter Tryd.func7, Tryd.ntmps7
  go_wp2_with fail
  refine H1.out.mono ?_
  rintro e w1 ⟨rfl, hb1⟩
  have HB1 := Lib.hid hb1
  clear hb1
  go_wp2_with fail
  refine (H2.out w1).mono ?_
  rintro e w2 ⟨rfl, rfl⟩
  go_wp2_with fail
  refine (alive_any w1 (Ht.out.stays HB1.out)).mono ?_
  rintro e w3 ⟨rfl, hb3⟩
  have HB3 := Lib.hid (below_trans HB1.out hb3)
  clear hb3
  go_wp2_with fail
  go_ret
  exact ⟨rfl, HB3.out⟩

set_option maxHeartbeats 1000000 in
theorem parses_is (s : ByteArray) (n : Int) (w : World) (ht : Tabs w) (hz : s.size ≤ 100) (h1 : Calls Tryd.prog 23 #[.string s] w (RetNum n 0 w)) (h2 : ∀ w : World, Calls Tryd.prog 25 #[.string s] w fun e w' => e = calcRet n 0 ∧ w = w')
    (hx : (textL n == s.toList) = true) : Calls Tryd.prog 7 #[.string s] w (RetTrue w) := by
  have Ht := Lib.hid ht
  have h1 : Calls Tryd.prog 23 #[.string s] w fun e w' => e = .returned (.tuple #[.int .i64 n, .int .i64 0]) ∧ Below w.heap.size w w' := h1
  have H1 := Lib.hid h1
  have h2 : ∀ w : World, Calls Tryd.prog 25 #[.string s] w fun e w' => e = .returned (.tuple #[.int .i64 n, .int .i64 0]) ∧ w = w' := h2
  have H2 := Lib.hid h2
  clear ht h1 h2
  go_enter Tryd.func7, Tryd.ntmps7
  go_wp2_with fail
  refine H1.out.mono ?_
  rintro e w1 ⟨rfl, hb1⟩
  have HB1 := Lib.hid hb1
  clear hb1
  go_wp2_with fail
  refine (H2.out w1).mono ?_
  rintro e w2 ⟨rfl, rfl⟩
  go_wp2_with fail
  refine (alive_any w1 (Ht.out.stays HB1.out)).mono ?_
  rintro e w3 ⟨rfl, hb3⟩
  have HB3 := Lib.hid (below_trans HB1.out hb3)
  clear hb3
  go_wp2_with fail
  refine (text_any n w3 (Ht.out.stays HB3.out)).mono ?_
  rintro e w4 ⟨rfl, hb4⟩
  have HB4 := Lib.hid (below_trans HB3.out hb4)
  clear hb4
  go_wp2_with fail
  go_ret
  exact ⟨rfl, HB4.out⟩

theorem parses_walk (s : ByteArray) (hl : s.size ≤ 9223372036854775807) (w : World) (ht : Tabs w) : Calls Tryd.prog 7 #[.string s] w (RetTrue w) := by
  by_cases h : 100 < s.size
  · exact parses_long s w ht hl h
  cases hs : (s.toList == [110, 111, 110, 101])
  · by_cases hn : IsNum s.toList
    · obtain ⟨n, h0, h1, e⟩ := hn
      have es : s = ⟨(Lib.itoa n).toArray⟩ := WideShapes.bytes_inj (by rw [← Lib.toList_data, List.toList_toArray, e])
      have hn : nearZ n = n := by rcases nearZ_cases n with h | h | h <;> omega
      have ht' : textL n = Lib.itoa n := by unfold textL; rw [hn, if_neg (by omega)]
      refine parses_is s n w ht (by omega) ?_ ?_ (by rw [ht', e]; simp)
      · rw [es]; exact parse_itoa n w ht h0 h1
      · intro w; rw [es]; exact rparse_num n w h0 h1
    · exact parses_off s w ht (by omega) hs hn
  · have es : s = ⟨#[110, 111, 110, 101]⟩ := WideShapes.bytes_inj (by rw [← Lib.toList_data]; simpa using hs)
    subst es
    exact parses_is _ 4611686018427387904 w ht (by decide) (parse_none w) rparse_none (by rw [Lib.toList_data]; decide +kernel)
end Go.Proofs.YtnokpnhggfemiaaDoor
