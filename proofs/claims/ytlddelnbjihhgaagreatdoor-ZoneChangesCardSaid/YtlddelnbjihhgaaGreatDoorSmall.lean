/- The contracts of Text of the bottom, value, and of the statements' own small functions. -/
import Derived.Test.YtlddelnbjihhgaaGreatDoorSpanOf
namespace Go.Proofs.YtlddelnbjihhgaaGreatDoor
open Go.RowKit
attribute [local go_sem ↓] Go.wp_at_zero Go.wp_at_succ

set_option maxRecDepth 100000 in
set_option maxHeartbeats 1600000 in
theorem text_none {w : World} {N : Int} {Az : Option Addr} {lz cz m : Nat}
    (K : ∀ W, Below w.heap.size w W → Calls Tryz.prog 34 #[zoneV N Az lz cz] W (RetC W m none)) :
    Calls Tryz.prog 28 #[zoneV N Az lz cz] w fun e w' => e = .returned (.string ⟨#[98, 111, 116, 116, 111, 109]⟩) ∧ Below w.heap.size w w' := by
  have HT := Lib.hid (gz_new w (.int .i64 N) (.slice Az lz cz))
  have HB := Lib.hid HT.out.2
  have HK := Lib.hid K
  clear K
  have e0 : rlen m (none : Option Mat) = 0 := rfl
  go_enter Tryz.func28, Tryz.ntmps28
  go_wp2_with (first
    | (go_at_call 34; ((with_reducible refine (HK.out _ HB.out).mono ?_); rintro e w1 ⟨A, c1, rfl, hz1, hb1⟩); have hF1 : Gz w w1 _ _ := Gz.below HT.out hb1; have y0 := hF1.1.cell0; have y1 := hF1.1.cell1; have y4 := hF1.1.frozen0; have y5 := hF1.1.frozen1)
    | (go_at_call 35; ((with_reducible refine (none_any _ _ _ _ _).mono ?_); rintro e w3 ⟨rfl, hb3⟩); have hF2 := (hF1.put (.int .i64 ((m : Int) - 1)) (.slice A 0 c1)).below hb3))
  go_ret
  exact ⟨rfl, hF2.2⟩

set_option maxRecDepth 100000 in
theorem few_any (w : World) (N : Int) (A : Option Addr) (len cap : Nat) : Calls Tryz.prog 5 #[zoneV N A len cap] w (RetB w (decide (len ≤ 100))) := by
  have hb := zboxed w (.cells #[.int .i64 N, .slice A len cap] 24)
  by_cases h : len ≤ 100
  · have h1 : decide ((len : Int) ≤ 100) = true := decide_eq_true (by omega)
    rw [decide_eq_true h]
    go_enter Tryz.func5, Tryz.ntmps5
    go_wp2_with fail
    go_ret
    exact ⟨rfl, hb⟩
  · have h1 : decide ((len : Int) ≤ 100) = false := decide_eq_false (by omega)
    rw [decide_eq_false h]
    go_enter Tryz.func5, Tryz.ntmps5
    go_wp2_with fail
    go_ret
    exact ⟨rfl, hb⟩
set_option maxRecDepth 100000 in
theorem of_zone (w : World) (N : Int) (A : Option Addr) (len cap : Nat) : Calls Tryz.prog 9 #[zoneV N A len cap] w fun e w' => e = .returned (zoneV N A len cap) ∧ Below w.heap.size w w' := by
  go_enter Tryz.func9, Tryz.ntmps9
  go_wp2_with fail
  have hb := ((Below.refl _ w).alloc (Nat.le_refl _) (.cells #[.int .i64 N, .slice A len cap] 24)).alloc (by simp) (.cells #[.int .i64 N, .slice A len cap] 32)
  exact bodyPost_ret (v := .agg #[.int .i64 N, .slice A len cap]) (by simp [results, Tryz.results9, go_sem]) rfl ⟨rfl, hb⟩
end Go.Proofs.YtlddelnbjihhgaaGreatDoor
