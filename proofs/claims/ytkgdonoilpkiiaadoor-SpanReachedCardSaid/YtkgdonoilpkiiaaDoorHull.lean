/- The contract of Hull: the least span of a slice's numbers. -/
import Derived.Test.YtkgdonoilpkiiaaDoorSets
import Derived.Test.YtkgdonoilpkiiaaDoorHullNums
import Derived.LoopTactic
import Derived.Deep.QuietTactic
import Derived.BigQuiet
namespace Go.Proofs.YtkgdonoilpkiiaaDoor
open Go.RowKit
attribute [local go_sem ↓] Go.wp_at_zero Go.wp_at_succ eq24 eq23 neq24 eqg24 eqg23

set_option maxHeartbeats 400000 in
theorem hull_none (A : Option Addr) (cap : Nat) (w : World) : Calls Tryd.prog 17 #[.slice A 0 cap] w (RetSpan 1 0 w) := by
  go_enter Tryd.func17, Tryd.ntmps17
  go_wp2_with (first | (go_at_call 9; ((with_reducible refine (empty_any _).mono ?_); rintro e w1 ⟨rfl, hb1⟩); obtain ⟨hc, hf⟩ := bcell hb1))
  refine bodyPost_ret (v := .agg #[.int .i64 1, .int .i64 0]) (by simp [results, Tryd.results17, go_sem, hc]) rfl ⟨rfl, ?_⟩
  exact ((((Below.refl _ _).alloc (Nat.le_refl _) _).trans (hb1.mono (by simp))).setCell (by simp) _).setCell (by simp) _

theorem below_drewN {B : Nat} {a w : World} (h : Below B a w) (n : Nat) : Below B a (w.drewN n) := ⟨h.os, h.tape, h.output, h.size, h.block⟩

set_option maxHeartbeats 1600000 in
theorem hull_more (f : Nat → Int) (b off m cap : Nat) (w : World) (hm : m + 1 ≤ cap) (h1 : 1 < cap) (hz : m ≤ 4611686018427387904) (hb : b < w.heap.size) (cells : ∀ j, j ≤ m → w.cell? ⟨b, off + j, none⟩ = some (.int .i64 (f j))) :
    Calls Tryd.prog 17 #[.slice (some ⟨b, off, none⟩) (m + 1) cap] w (RetSpan (ofL (mnF f m) (mxF f m)) (ofH (mnF f m) (mxF f m)) w) := by
  have c0 : w.cell? ⟨b, off, none⟩ = some (.int .i64 (f 0)) := cells 0 (by omega)
  have HC := Lib.hid cells
  clear cells
  go_enter Tryd.func17, Tryd.ntmps17
  go_wp2_with fail
  go_quiet (fail)
  go_wp2_with fail
  go_loop [3, 4, 20] (fun lo hi i => ∃ k : Nat, k ≤ m ∧ i = .int .i64 k ∧ lo = .int .i64 (mnF f k) ∧ hi = .int .i64 (mxF f k)) (fun _ _ i => m - (intOf i).toNat)
  case atStart => exact ⟨0, Nat.zero_le _, rfl, rfl, rfl⟩
  case round =>
    obtain ⟨k, hk, rfl, rfl, rfl⟩ := hrel
    by_cases hlt : k < m
    · have hcell : w.cell? ⟨b, off + 1 + k, none⟩ = some (.int .i64 (f (k + 1))) := by have := HC.out (k + 1) (by omega); rwa [show off + (k + 1) = off + 1 + k by omega] at this
      go_wp2_with fail
      go_round
      case rel => exact ⟨k + 1, by omega, by go_num, rfl, rfl⟩
      case measure => simp [intOf]; omega
    · obtain rfl : k = m := by omega
      go_wp2_with (first | (go_at_call 26; ((with_reducible refine (of_any _ _ _).mono ?_); rintro e w1 ⟨rfl, hb1⟩); obtain ⟨hc, hf⟩ := bcell hb1))
      refine bodyPost_ret (v := .agg #[.int .i64 (ofL (mnF f k) (mxF f k)), .int .i64 (ofH (mnF f k) (mxF f k))]) (by simp [results, Tryd.results17, go_sem, hc]) rfl ⟨rfl, ?_⟩
      exact ((((below_drewN ((Below.refl _ _).alloc (Nat.le_refl _) _) nq).trans (hb1.mono (by simp))).setCell (by simp) _).setCell (by simp) _)

set_option maxHeartbeats 1600000 in
theorem hull_one (x : Int) (b off : Nat) (w : World) (hb : b < w.heap.size) (c0 : w.cell? ⟨b, off, none⟩ = some (.int .i64 x)) :
    Calls Tryd.prog 17 #[.slice (some ⟨b, off, none⟩) 1 1] w (RetSpan (ofL x x) (ofH x x) w) := by
  go_enter Tryd.func17, Tryd.ntmps17
  go_wp2_with fail
  go_quiet (fail)
  go_wp2_with fail
  go_loop [3, 4, 20] (fun lo hi i => i = .int .i64 0 ∧ lo = .int .i64 x ∧ hi = .int .i64 x) (fun _ _ _ => 0)
  case atStart => exact ⟨rfl, rfl, rfl⟩
  case round =>
    obtain ⟨rfl, rfl, rfl⟩ := hrel
    go_wp2_with (first | (go_at_call 26; ((with_reducible refine (of_any _ _ _).mono ?_); rintro e w1 ⟨rfl, hb1⟩); obtain ⟨hc, hf⟩ := bcell hb1))
    refine bodyPost_ret (v := .agg #[.int .i64 (ofL x x), .int .i64 (ofH x x)]) (by simp [results, Tryd.results17, go_sem, hc]) rfl ⟨rfl, ?_⟩
    exact ((((below_drewN ((Below.refl _ _).alloc (Nat.le_refl _) _) nq).trans (hb1.mono (by simp))).setCell (by simp) _).setCell (by simp) _)

/-- Hull, of a slice that holds f 0 to f (n - 1). -/
theorem hull_any (f : Nat → Int) (b off n cap : Nat) (w : World) (hn : n ≤ cap) (hz : n ≤ 4611686018427387904) (hb : 0 < n → b < w.heap.size) (cells : ∀ j, j < n → w.cell? ⟨b, off + j, none⟩ = some (.int .i64 (f j))) :
    Calls Tryd.prog 17 #[.slice (some ⟨b, off, none⟩) n cap] w (RetSpan (hullL f n) (hullH f n) w) := by
  match n with
  | 0 => exact hull_none _ cap w
  | m + 1 =>
    by_cases h1 : 1 < cap
    · exact hull_more f b off m cap w hn h1 (by omega) (hb (by omega)) (fun j hj => cells j (by omega))
    · obtain rfl : m = 0 := by omega
      obtain rfl : cap = 1 := by omega
      exact hull_one (f 0) b off w (hb (by omega)) (cells 0 (by omega))

/-- Four numbers, in a row. -/
def four (a b c d : Int) : Nat → Int
  | 0 => a
  | 1 => b
  | 2 => c
  | _ => d
theorem hull_four (a b c d : Int) (g t : Nat) (w : World) (W : World) (hW : W = w.alloc (.cells #[.int .i64 a, .int .i64 b, .int .i64 c, .int .i64 d] t)) (hg : g = w.heap.size) :
    Calls Tryd.prog 17 #[.slice (some ⟨g, 0, none⟩) 4 4] W (RetSpan (hullL (four a b c d) 4) (hullH (four a b c d) 4) W) := by
  subst hW hg
  refine hull_any (four a b c d) w.heap.size 0 4 4 _ (by omega) (by omega) (by simp) ?_
  intro j hj
  rcases (by omega : j = 0 ∨ j = 1 ∨ j = 2 ∨ j = 3) with rfl | rfl | rfl | rfl <;> go_simp <;> rfl
end Go.Proofs.YtkgdonoilpkiiaaDoor
