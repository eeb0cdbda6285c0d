/- Numerals: what is written is read as it was. Nothing of the program stands here. -/
import Derived.Lib.ItoaNum
import Derived.Lib.ItoaLen
import Derived.Lib.AtoiAll
import Derived.Lib.AtoiAllCases
import Derived.Test.YtnokpnhggfemiaaDoorNums
namespace Go.Proofs.YtnokpnhggfemiaaDoor
open Go.Lib

/-- A digit. -/
def isDig (c : UInt8) : Prop := 48 ≤ c.toNat ∧ c.toNat ≤ 57

/-- What digits spell, behind a number. -/
def val (acc : Nat) : List UInt8 → Nat
  | [] => acc
  | c :: r => val (acc * 10 + (c.toNat - 48)) r

theorem val_le : ∀ (l : List UInt8) (acc : Nat), acc ≤ val acc l
  | [], _ => Nat.le_refl _
  | c :: r, acc => Nat.le_trans (by omega) (val_le r (acc * 10 + (c.toNat - 48)))

theorem val_snoc : ∀ (l : List UInt8) (c : UInt8) (acc : Nat), val acc (l ++ [c]) = val acc l * 10 + (c.toNat - 48)
  | [], _, _ => rfl
  | d :: r, c, acc => val_snoc r c (acc * 10 + (d.toNat - 48))

theorem digit_of {k : Nat} (h : k < 10) : (UInt8.ofNat (48 + k)).toNat = 48 + k := by
  rw [UInt8.toNat_ofNat']; omega

theorem decDigits_dig (u : Nat) : ∀ c ∈ decDigits u, isDig c := by
  induction u using Nat.strongRecOn with
  | ind u ih =>
    intro c hc
    rw [decDigits] at hc
    by_cases h : u < 10
    · rw [dif_pos h] at hc
      simp only [List.mem_singleton] at hc
      subst hc
      unfold isDig; rw [digit_of h]; omega
    · rw [dif_neg h] at hc
      rcases List.mem_append.1 hc with hc | hc
      · exact ih (u / 10) (by omega) c hc
      · simp only [List.mem_singleton] at hc
        subst hc
        unfold isDig; rw [digit_of (by omega)]; omega

theorem val_decDigits (u : Nat) : val 0 (decDigits u) = u := by
  induction u using Nat.strongRecOn with
  | ind u ih =>
    rw [decDigits]
    by_cases h : u < 10
    · rw [dif_pos h]
      show 0 * 10 + _ = u
      rw [digit_of h]; omega
    · rw [dif_neg h, val_snoc, ih (u / 10) (by omega), digit_of (by omega)]
      omega

theorem decDigits_ne (u : Nat) : decDigits u ≠ [] := by
  intro h
  have := decDigits_length u
  rw [h] at this
  have := nDigits_pos u
  simp at *
  omega

theorem parse_val : ∀ (l : List UInt8) (acc : Nat), (∀ c ∈ l, isDig c) → val acc l < 18446744073709551616 → parseUint10 acc l = .ok (val acc l)
  | [], _, _, _ => rfl
  | c :: r, acc, hd, h => by
    have hc := hd c (List.mem_cons_self ..)
    have hl := val_le r (acc * 10 + (c.toNat - 48))
    have hv : val acc (c :: r) = val (acc * 10 + (c.toNat - 48)) r := rfl
    rw [hv] at h ⊢
    unfold isDig at hc
    unfold parseUint10
    rw [if_pos hc, if_neg (by omega), if_neg (by omega)]
    exact parse_val r _ (fun d hd' => hd d (List.mem_cons_of_mem _ hd')) h

theorem parseMag_dec (u : Nat) (h : u < 18446744073709551616) : parseMag (decDigits u) = .ok u := by
  unfold parseMag
  rw [if_neg (decDigits_ne u), parse_val _ 0 (decDigits_dig u) (by rw [val_decDigits]; exact h), val_decDigits]

/-- What Itoa writes Atoi reads. -/
theorem atoi_itoa (n : Int) (h0 : -9223372036854775808 < n) (h1 : n ≤ 9223372036854775807) : atoiAll (itoa n) = .ok n := by
  unfold itoa
  by_cases h : n < 0
  · rw [if_pos h, atoiAll_minus, parseMag_dec _ (by omega)]
    show (if 9223372036854775808 < n.natAbs then NumEnd.range else NumEnd.ok (-(n.natAbs : Int))) = .ok n
    rw [if_neg (by omega)]
    congr 1
    omega
  · rw [if_neg h]
    cases hd : decDigits n.toNat with
    | nil => exact absurd hd (decDigits_ne _)
    | cons c r =>
      have hc := decDigits_dig n.toNat c (by rw [hd]; exact List.mem_cons_self ..)
      unfold isDig at hc
      rw [atoiAll_plain c r (by omega) (by omega), ← hd, parseMag_dec _ (by omega)]
      show (if 9223372036854775808 ≤ n.toNat then NumEnd.range else NumEnd.ok (n.toNat : Int)) = .ok n
      rw [if_neg (by omega)]
      congr 1
      omega
end Go.Proofs.YtnokpnhggfemiaaDoor
