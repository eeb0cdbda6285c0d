/- The contracts of stepDown and stepUp. -/
import Derived.Test.YtkgdonoilpkiiaaDoorHull
import Derived.Test.YtkgdonoilpkiiaaDoorWidenNums
namespace Go.Proofs.YtkgdonoilpkiiaaDoor
open Go.RowKit

/-- A slice of m numbers, f 0 and on, that lies in memory. -/
def Ints (w : World) (A : Option Addr) (m : Nat) (f : Nat → Int) : Prop :=
  0 < m → ∃ b off : Nat, A = some ⟨b, off, none⟩ ∧ b < w.heap.size ∧ ∀ j, j < m → w.cell? ⟨b, off + j, none⟩ = some (.int .i64 (f j))
theorem Ints.below {w w' : World} {A : Option Addr} {m : Nat} {f : Nat → Int} (h : Ints w A m f) (hb : Below w.heap.size w w') : Ints w' A m f := fun hm => by
  obtain ⟨b, off, e, hlt, hc⟩ := h hm
  exact ⟨b, off, e, by have := hb.size; omega, fun j hj => by rw [(bcell hb).1 _ _ hlt]; exact hc j hj⟩

set_option maxHeartbeats 400000 in
theorem down_none (n : Int) (A : Option Addr) (cap : Nat) (w : World) : Calls Tryd.prog 36 #[.int .i64 n, .slice A 0 cap] w fun e w' => e = .returned (.int .i64 (-1152921504606846976)) ∧ w = w' := by
  go_enter Tryd.func36, Tryd.ntmps36
  go_wp2_with fail
  go_loop [5, 10] (fun t i => t = .int .i64 (-1152921504606846976) ∧ i = .int .i64 0) (fun _ _ => 0)
  case atStart => exact ⟨rfl, rfl⟩
  case round =>
    obtain ⟨rfl, rfl⟩ := hrel
    go_wp2_with fail
    go_ret
    exact ⟨rfl, rfl⟩

set_option maxHeartbeats 800000 in
theorem down_some (f : Nat → Int) (n : Int) (b off m cap : Nat) (w : World) (hz : m ≤ 4611686018427387904) (cells : ∀ j, j < m → w.cell? ⟨b, off + j, none⟩ = some (.int .i64 (f j))) :
    Calls Tryd.prog 36 #[.int .i64 n, .slice (some ⟨b, off, none⟩) m cap] w fun e w' => e = .returned (.int .i64 (dnF f n m)) ∧ w = w' := by
  have HC := Lib.hid cells
  clear cells
  go_enter Tryd.func36, Tryd.ntmps36
  go_wp2_with fail
  go_loop [5, 10] (fun t i => ∃ k : Nat, k ≤ m ∧ i = .int .i64 k ∧ t = .int .i64 (dnF f n k)) (fun _ i => m - (intOf i).toNat)
  case atStart => exact ⟨0, Nat.zero_le _, rfl, rfl⟩
  case round =>
    obtain ⟨k, hk, rfl, rfl⟩ := hrel
    by_cases hlt : k < m
    · have hcell := HC.out k hlt
      by_cases hle : f k ≤ n
      · have HS := Lib.hid (dnF_yes hle)
        go_wp2_with fail
        go_round
        case rel => exact ⟨k + 1, by omega, by go_num, by rw [HS.out]⟩
        case measure => simp [intOf]; omega
      · have HS := Lib.hid (dnF_no hle)
        go_wp2_with fail
        go_round
        case rel => exact ⟨k + 1, by omega, by go_num, by rw [HS.out]⟩
        case measure => simp [intOf]; omega
    · obtain rfl : k = m := by omega
      go_wp2_with fail
      go_ret
      exact ⟨rfl, rfl⟩

set_option maxHeartbeats 400000 in
theorem up_none (n : Int) (A : Option Addr) (cap : Nat) (w : World) : Calls Tryd.prog 37 #[.int .i64 n, .slice A 0 cap] w fun e w' => e = .returned (.int .i64 1152921504606846976) ∧ w = w' := by
  go_enter Tryd.func37, Tryd.ntmps37
  go_wp2_with fail
  go_loop [5, 10] (fun t i => t = .int .i64 1152921504606846976 ∧ i = .int .i64 0) (fun _ _ => 0)
  case atStart => exact ⟨rfl, rfl⟩
  case round =>
    obtain ⟨rfl, rfl⟩ := hrel
    go_wp2_with fail
    go_ret
    exact ⟨rfl, rfl⟩

set_option maxHeartbeats 800000 in
theorem up_some (f : Nat → Int) (n : Int) (b off m cap : Nat) (w : World) (hz : m ≤ 4611686018427387904) (cells : ∀ j, j < m → w.cell? ⟨b, off + j, none⟩ = some (.int .i64 (f j))) :
    Calls Tryd.prog 37 #[.int .i64 n, .slice (some ⟨b, off, none⟩) m cap] w fun e w' => e = .returned (.int .i64 (upF f n m)) ∧ w = w' := by
  have HC := Lib.hid cells
  clear cells
  go_enter Tryd.func37, Tryd.ntmps37
  go_wp2_with fail
  go_loop [5, 10] (fun t i => ∃ k : Nat, k ≤ m ∧ i = .int .i64 k ∧ t = .int .i64 (upF f n k)) (fun _ i => m - (intOf i).toNat)
  case atStart => exact ⟨0, Nat.zero_le _, rfl, rfl⟩
  case round =>
    obtain ⟨k, hk, rfl, rfl⟩ := hrel
    by_cases hlt : k < m
    · have hcell := HC.out k hlt
      by_cases hle : n ≤ f k
      · have HS := Lib.hid (upF_yes hle)
        go_wp2_with fail
        go_round
        case rel => exact ⟨k + 1, by omega, by go_num, by rw [HS.out]⟩
        case measure => simp [intOf]; omega
      · have HS := Lib.hid (upF_no hle)
        go_wp2_with fail
        go_round
        case rel => exact ⟨k + 1, by omega, by go_num, by rw [HS.out]⟩
        case measure => simp [intOf]; omega
    · obtain rfl : k = m := by omega
      go_wp2_with fail
      go_ret
      exact ⟨rfl, rfl⟩

theorem down_any (f : Nat → Int) (n : Int) (A : Option Addr) (m cap : Nat) (w : World) (hz : m ≤ 4611686018427387904) (h : Ints w A m f) :
    Calls Tryd.prog 36 #[.int .i64 n, .slice A m cap] w fun e w' => e = .returned (.int .i64 (dnF f n m)) ∧ w = w' := by
  match m with
  | 0 => exact down_none n A cap w
  | m + 1 =>
    obtain ⟨b, off, rfl, -, hc⟩ := h (by omega)
    exact down_some f n b off (m + 1) cap w hz hc
theorem up_any (f : Nat → Int) (n : Int) (A : Option Addr) (m cap : Nat) (w : World) (hz : m ≤ 4611686018427387904) (h : Ints w A m f) :
    Calls Tryd.prog 37 #[.int .i64 n, .slice A m cap] w fun e w' => e = .returned (.int .i64 (upF f n m)) ∧ w = w' := by
  match m with
  | 0 => exact up_none n A cap w
  | m + 1 =>
    obtain ⟨b, off, rfl, -, hc⟩ := h (by omega)
    exact up_some f n b off (m + 1) cap w hz hc
end Go.Proofs.YtkgdonoilpkiiaaDoor
