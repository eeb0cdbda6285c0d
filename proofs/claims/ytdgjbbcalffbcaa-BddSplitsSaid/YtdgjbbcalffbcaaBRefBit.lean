/- The document's Bit, with and at. -/
import Derived.Test.YtdgjbbcalffbcaaBArgs
import Derived.Deep.LoopGhost
namespace Go.Proofs.Ytdgjbbcalffbcaa
open Go.RowKit
attribute [local go_sem ↓] Go.wp_at_zero Go.wp_at_succ

theorem add_bit {n v : Nat} (h : n.testBit v = false) (j : Nat) : (n + 2 ^ v).testBit j = if j = v then true else n.testBit j := by
  have hp : 0 < 2 ^ v := Nat.pos_of_ne_zero (by simp)
  have hr : n % 2 ^ v < 2 ^ v := Nat.mod_lt _ hp
  have hq : (n / 2 ^ v) % 2 = 0 := by
    rw [Nat.testBit_eq_decide_div_mod_eq] at h
    have := of_decide_eq_false h
    omega
  obtain ⟨q, hq⟩ : ∃ q, n / 2 ^ v = 2 * q := ⟨n / 2 ^ v / 2, by omega⟩
  have hn : n = 2 ^ v * (2 * q) + n % 2 ^ v := by rw [← hq]; exact (Nat.div_add_mod n (2 ^ v)).symm
  have hn2 : n + 2 ^ v = 2 ^ v * (2 * q + 1) + n % 2 ^ v := by
    rw [Nat.mul_add, Nat.mul_one]
    omega
  rw [hn2, Nat.testBit_two_pow_mul_add _ hr]
  conv => rhs; rw [hn]
  rw [Nat.testBit_two_pow_mul_add _ hr]
  by_cases hj : j < v
  · rw [if_pos hj, if_pos hj, if_neg (by omega)]
  · rw [if_neg hj, if_neg hj]
    by_cases e : j = v
    · rw [if_pos e, e, Nat.sub_self]
      simp
    · rw [if_neg e]
      obtain ⟨k, hk⟩ : ∃ k, j - v = k + 1 := ⟨j - v - 1, by omega⟩
      rw [hk, Nat.testBit_succ, Nat.testBit_succ]
      congr 1
      omega
theorem set_add {n v : Nat} (h : n.testBit v = false) : setBit n v true = n + 2 ^ v := by
  apply Nat.eq_of_testBit_eq
  intro j
  rw [add_bit h]
  by_cases e : j = v
  · rw [if_pos e, e, setBit_at]
  · rw [if_neg e, setBit_other _ _ e]
theorem set_sub {n v : Nat} (h : n.testBit v = true) : setBit n v false + 2 ^ v = n := by
  rw [← set_add (setBit_at n v false)]
  apply Nat.eq_of_testBit_eq
  intro j
  by_cases e : j = v
  · rw [e, setBit_at, h]
  · rw [setBit_other _ _ e, setBit_other _ _ e]
theorem set_self {n v : Nat} {on : Bool} (h : n.testBit v = on) : setBit n v on = n := by unfold setBit; rw [if_pos h]
theorem half_nat (n i : Nat) : ((n / 2 ^ i : Nat) : Int) / 2 = ((n / 2 ^ (i + 1) : Nat) : Int) := by
  have e : n / 2 ^ (i + 1) = n / 2 ^ i / 2 := by rw [Nat.pow_succ, Nat.div_div_eq_div_mul]
  rw [e]
  generalize n / 2 ^ i = m
  omega
theorem odd_nat (n v : Nat) : ((((n / 2 ^ v : Nat) : Int) % 2) == 1) = n.testBit v := by
  rw [Nat.testBit_eq_decide_div_mod_eq]
  generalize n / 2 ^ v = m
  rw [Bool.eq_iff_iff]
  simp
  omega
set_option maxRecDepth 100000 in
theorem bit_any (n v : Nat) (hn : n < 4096) (hv : v < 12) (W : World) : Calls Try.prog 59 #[.int .i64 n, .int .i64 v] W (RetW (.bool (n.testBit v)) W) := by
  have hb : ∀ i, n / 2 ^ i ≤ n := fun i => Nat.div_le_self _ _
  have HB := Lib.hid hb
  have HO := Lib.hid (odd_nat n v)
  have HH := Lib.hid (half_nat n)
  clear hb
  go_enter Try.func59, Try.ntmps59
  go_wp2_with fail
  go_loopg [0, 5] v (fun gk t0 t5 wr => ∃ i : Nat, i + gk = v ∧ t0 = .int .i64 ((n / 2 ^ i : Nat) : Int) ∧ t5 = .int .i64 (i : Int) ∧ wr = W)
  case atStart => exact ⟨0, by omega, by simp, rfl, rfl⟩
  case round =>
    obtain ⟨i, hi, rfl, rfl, rfl⟩ := hrel
    obtain ⟨x, hx⟩ : ∃ x, x = n / 2 ^ i := ⟨_, rfl⟩
    have hx1 : x ≤ n := by rw [hx]; exact HB.out i
    have e1 := HH.out i
    rw [← hx] at e1 ⊢
    have HX := Lib.hid hx
    have HE := Lib.hid e1
    clear hx e1
    by_cases h : i < v
    · go_wp2_with fail
      go_roundg (gk - 1)
      case measure => omega
      case rel => exact ⟨i + 1, by omega, by rw [← HE.out], by go_num, rfl⟩
    · obtain rfl : i = v := by omega
      go_wp2_with fail
      go_ret
      rw [← HO.out, ← HX.out]
      exact ⟨rfl, rfl⟩
end Go.Proofs.Ytdgjbbcalffbcaa
