/- The walk of SpanHulls: it returns true at any slice of numbers. -/
import Derived.Test.YtfdojbeckadalaaDoorAlive
import Derived.Test.YtfdojbeckadalaaDoorRefHull
namespace Go.Proofs.YtfdojbeckadalaaDoor
open Go.RowKit
attribute [local go_sem ↓] Go.wp_at_zero Go.wp_at_succ eq24 eq23 neq24 eqg24 eqg23

theorem sameB_self (a b : Int) : sameB a b a b = true := (sameB_iff a b a b).2 ⟨rfl, rfl⟩

/-- A whole number among the numbers is in their span. -/
theorem hull_has {f : Nat → Int} {m k : Nat} (hk : k < m) (h : inB (f k) = true) : hasS (hullL f m) (hullH f m) (f k) = true := by
  obtain ⟨n, rfl⟩ : ∃ n, m = n + 1 := ⟨m - 1, by omega⟩
  have hb := of_inB h
  have h1 := mnF_le f n k (by omega)
  have h2 := le_mxF f n k (by omega)
  have hr := rightS_of (mnF f n) (mxF f n)
  show hasS (ofL (mnF f n) (mxF f n)) (ofH (mnF f n) (mxF f n)) (f k) = true
  unfold hasS
  rw [hr, Bool.true_and, Bool.and_eq_true, decide_eq_true_iff, decide_eq_true_iff]
  rcases of_cases (mnF f n) (mxF f n) with c | c <;> omega

theorem rhull_ints (f : Nat → Int) (A : Option Addr) (n cap : Nat) (w : World) (hz : n ≤ 4611686018427387904) (h : Ints w A n f) : Calls Tryd.prog 36 #[.slice A n cap] w (RetSpan (hullL f n) (hullH f n) w) := by
  match n with
  | 0 => exact rhull_none A cap w
  | m + 1 =>
    obtain ⟨b, off, rfl, hb, hc⟩ := h (by omega)
    exact rhull_any f b off (m + 1) cap w hz (fun _ => hb) hc

set_option maxHeartbeats 1600000 in
theorem hulls_long (A : Option Addr) (m cap : Nat) (w : World) (hm : 100 < m) (hz : m ≤ 9223372036854775807) : Calls Tryd.prog 10 #[.slice A m cap] w (RetTrue w) := by
  go_enter Tryd.func10, Tryd.ntmps10
  go_wp2_with (first | (go_at_call 11; ((with_reducible refine (alive_any _).mono ?_); rintro e w1 ⟨rfl, hb1⟩)))
  go_ret
  exact ⟨rfl, hb1⟩

set_option maxHeartbeats 3200000 in
theorem hulls_short (f : Nat → Int) (A : Option Addr) (m cap : Nat) (w : World) (hm : m ≤ 100) (hc : m ≤ cap) (hI : Ints w A m f) : Calls Tryd.prog 10 #[.slice A m cap] w (RetTrue w) := by
  have HI := Lib.hid hI
  have HS := Lib.hid (sameB_self (hullL f m) (hullH f m))
  clear hI
  go_enter Tryd.func10, Tryd.ntmps10
  go_wp2_with (first | (go_at_call 34; ((with_reducible refine (hull_ints f A m cap _ hc (by omega) HI.out).mono ?_); rintro e w1 ⟨rfl, hb1⟩); have HB1 := Lib.hid hb1; clear hb1))
  have HX := Lib.hid (box_new w1 24 (hullL f m) (hullH f m))
  have HW := Lib.hid (below_trans HB1.out (boxed w1 (.cells #[.int .i64 (hullL f m), .int .i64 (hullH f m)] 24)))
  go_loopw [14] (fun i wr => ∃ k : Nat, k ≤ m ∧ i = .int .i64 k ∧ Below (w1.alloc (.cells #[.int .i64 (hullL f m), .int .i64 (hullH f m)] 24)).heap.size (w1.alloc (.cells #[.int .i64 (hullL f m), .int .i64 (hullH f m)] 24)) wr) (fun i _ => m - (intOf i).toNat)
  case atStart => exact ⟨0, Nat.zero_le _, rfl, Below.refl _ _⟩
  case round =>
    obtain ⟨k, hk, rfl, hnx⟩ := hrel
    have HN := Lib.hid hnx
    have HI2 := Lib.hid (HI.out.below (below_trans HW.out hnx))
    obtain ⟨z0, p0, p1, f0, f1⟩ := HX.out.below hnx
    clear hnx
    by_cases hlt : k < m
    · obtain ⟨b', off, rfl, hbl, hcells⟩ := HI2.out (by omega)
      have hcell := hcells k hlt
      clear hcells
      cases hin : inB (f k)
      · go_wp2_with (first | (go_at_call 35; ((with_reducible refine (rin_any _ _).mono ?_); rintro e w' ⟨rfl, rfl⟩)))
        go_roundw
        case rel => exact ⟨k + 1, by omega, by go_num, HN.out⟩
        case measure => simp [intOf]; omega
      · have hh := hull_has hlt hin
        go_wp2_with (first
          | (go_at_call 35; ((with_reducible refine (rin_any _ _).mono ?_); rintro e w' ⟨rfl, rfl⟩))
          | (go_at_call 20; ((with_reducible refine (has_any _ _ _ _).mono ?_); rintro e w3 ⟨rfl, hb3⟩); have HB3 := Lib.hid hb3; clear hb3))
        go_roundw
        case rel => exact ⟨k + 1, by omega, by go_num, below_trans HN.out HB3.out⟩
        case measure => simp [intOf]; omega
    · obtain rfl : k = m := by omega
      have hs := HS.out
      have HI3 := Lib.hid (show Ints wr.drew A k f from HI2.out)
      go_wp2_with fail
      go_region_held3 (fun w' => w1.heap.size < w'.heap.size ∧ w'.cell? ⟨w1.heap.size, 0, none⟩ = some (.int .i64 (hullL f k)) ∧ w'.cell? ⟨w1.heap.size, 1, none⟩ = some (.int .i64 (hullH f k))) (first | (exact keep_one hb5 (by assumption)) | (exact keep_one hb4 (by assumption)) | go_keep)
        (first
          | (go_at_call 11; ((with_reducible refine (alive_any _).mono ?_); rintro e w4 ⟨rfl, hb4⟩))
          | (go_at_call 36; ((with_reducible refine (rhull_ints f A k cap _ (by omega) (HI3.out.below hb4)).mono ?_); rintro e w5 ⟨rfl, hb5⟩)))
      have HB5 := Lib.hid (below_trans (below_trans HW.out HN.out).drew (below_trans hb4 hb5))
      go_wp2_with fail
      go_ret
      exact ⟨rfl, HB5.out⟩

theorem hulls_walk (f : Nat → Int) (A : Option Addr) (m cap : Nat) (w : World) (hz : m ≤ 9223372036854775807) (hc : m ≤ cap) (hI : Ints w A m f) : Calls Tryd.prog 10 #[.slice A m cap] w (RetTrue w) := by
  by_cases h : 100 < m
  · exact hulls_long A m cap w h hz
  · exact hulls_short f A m cap w (by omega) hc hI
end Go.Proofs.YtfdojbeckadalaaDoor
