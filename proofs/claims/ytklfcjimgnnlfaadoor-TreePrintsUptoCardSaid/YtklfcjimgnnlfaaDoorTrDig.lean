/- The tree layer: the document's digits. -/
import Derived.Test.YtklfcjimgnnlfaaDoorTrAlive
import Derived.WideShapes
import Derived.Lib.ItoaNum
import Derived.Lib.ItoaLen
namespace Go.Proofs.YtklfcjimgnnlfaaDoor
open Go.RowKit

/-- The digits of a number that is not below 0. -/
def digS (n : Int) : ByteArray := ⟨(Lib.decDigits n.toNat).toArray⟩

theorem piece_fin : ∀ i : Fin 10, (⟨#[48, 49, 50, 51, 52, 53, 54, 55, 56, 57]⟩ : ByteArray).extract i.val (i.val + 1) = ⟨#[UInt8.ofNat (48 + i.val)]⟩ := by decide +kernel
theorem digS_one (n : Nat) (h : n < 10) : (⟨#[48, 49, 50, 51, 52, 53, 54, 55, 56, 57]⟩ : ByteArray).extract n (n + 1) = digS n := by
  rw [piece_fin ⟨n, h⟩]
  unfold digS
  rw [Int.toNat_natCast, Lib.decDigits_one h]
theorem digS_more (n : Int) (h : 10 ≤ n) : digS (n / 10) ++ digS (n % 10) = digS n := by
  have e : Lib.decDigits n.toNat = Lib.decDigits (n / 10).toNat ++ Lib.decDigits (n % 10).toNat := by
    conv => lhs; rw [Lib.decDigits, dif_neg (show ¬ n.toNat < 10 by omega)]
    rw [Lib.decDigits_one (show (n % 10).toNat < 10 by omega), show (n / 10).toNat = n.toNat / 10 by omega, show (n % 10).toNat = n.toNat % 10 by omega]
  unfold digS
  rw [e]
  apply WideShapes.bytes_inj
  simp
theorem digS_size (n : Int) (h : n ≤ 9223372036854775807) : (digS n).size ≤ 20 := by
  show (Lib.decDigits n.toNat).toArray.size ≤ 20
  rw [List.size_toArray, Lib.decDigits_length]
  exact Lib.nDigits_le20 _ (by omega)

theorem digits_one (n : Nat) (w : World) (h : n < 10) : Calls Tryd.prog 56 #[.int .i64 n] w fun e w' => e = .returned (.string (digS n)) ∧ w = w' := by
  have HD := Lib.hid (digS_one n h)
  go_enter Tryd.func56, Tryd.ntmps56
  go_wp2_with fail
  go_ret
  exact ⟨congrArg (fun s => Ending.returned (.string s)) HD.out, rfl⟩

set_option maxHeartbeats 1000000 in
theorem digits_any (k : Nat) : ∀ (n : Int) (w : World), 0 ≤ n → n ≤ 9223372036854775807 → n < k → Calls Tryd.prog 56 #[.int .i64 n] w fun e w' => e = .returned (.string (digS n)) ∧ w = w' := by
  induction k with
  | zero => intro n w h0 _ h1; omega
  | succ k ih =>
    intro n w h0 h2 h1
    by_cases h : n < 10
    · obtain ⟨m, rfl⟩ := Int.eq_ofNat_of_zero_le h0
      exact digits_one m w (by omega)
    · have HI := Lib.hid ih
      clear ih
      have z1 := digS_size (n / 10) (by omega)
      have z2 := digS_size (n % 10) (by omega)
      go_enter Tryd.func56, Tryd.ntmps56
      go_wp2_with (go_at_call 56; refine (HI.out _ _ (by omega) (by omega) (by omega)).mono ?_; rintro e w' ⟨rfl, rfl⟩)
      go_ret
      exact ⟨congrArg (fun s => Ending.returned (.string s)) (digS_more n h), rfl⟩

theorem itoa_neg {n : Int} (h : n < 0) : (⟨#[45]⟩ : ByteArray) ++ digS (-n) = ⟨(Lib.itoa n).toArray⟩ := by
  unfold digS Lib.itoa
  rw [if_pos h, show (-n).toNat = n.natAbs by omega]
  apply WideShapes.bytes_inj
  simp
theorem itoa_pos {n : Int} (h : ¬ n < 0) : digS n = ⟨(Lib.itoa n).toArray⟩ := by
  unfold digS Lib.itoa
  rw [if_neg h]

set_option maxHeartbeats 1000000 in
theorem rdigits_any (n : Int) (w : World) (h0 : -9223372036854775808 < n) (h1 : n ≤ 9223372036854775807) : Calls Tryd.prog 33 #[.int .i64 n] w fun e w' => e = .returned (.string ⟨(Lib.itoa n).toArray⟩) ∧ w = w' := by
  by_cases h : n < 0
  · have HI := Lib.hid (itoa_neg h)
    have HD := Lib.hid (digits_any ((-n).toNat + 1) (-n) w (by omega) (by omega) (by omega))
    have z := digS_size (-n) (by omega)
    go_enter Tryd.func33, Tryd.ntmps33
    go_wp2_with (go_at_call 56; refine HD.out.mono ?_; rintro e w' ⟨rfl, rfl⟩)
    go_ret
    exact ⟨congrArg (fun s => Ending.returned (.string s)) HI.out, rfl⟩
  · have HI := Lib.hid (itoa_pos h)
    have HD := Lib.hid (digits_any (n.toNat + 1) n w (by omega) (by omega) (by omega))
    go_enter Tryd.func33, Tryd.ntmps33
    go_wp2_with (go_at_call 56; refine HD.out.mono ?_; rintro e w' ⟨rfl, rfl⟩)
    go_ret
    exact ⟨congrArg (fun s => Ending.returned (.string s)) HI.out, rfl⟩

end Go.Proofs.YtklfcjimgnnlfaaDoor
