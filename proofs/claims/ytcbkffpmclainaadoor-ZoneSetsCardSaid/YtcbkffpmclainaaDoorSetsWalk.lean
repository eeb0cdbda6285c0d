/- ZoneSets: the walk, whole. -/
import Derived.Test.YtcbkffpmclainaaDoorSetsIn
namespace Go.Proofs.YtcbkffpmclainaaDoor
open Go.RowKit
attribute [local go_sem ↓] Go.wp_at_zero Go.wp_at_succ

set_option maxRecDepth 100000 in
set_option maxHeartbeats 3200000 in
/-- One of them has more than 100 bounds. -/
theorem sets_far {w : World} {Na Nb : Int} {Aa Ab : Option Addr} {la lb ca cb : Nat} (h : ¬ (la ≤ 100 ∧ lb ≤ 100)) :
    Calls Tryd.prog 4 #[zoneV Na Aa la ca, zoneV Nb Ab lb cb] w (RetB w true) := by
  have HT := Lib.hid (pz_new w Na Aa la ca Nb Ab lb cb)
  by_cases h1 : la ≤ 100
  · have e1 : decide (la ≤ 100) = true := decide_eq_true h1
    have e2 : decide (lb ≤ 100) = false := decide_eq_false (by omega)
    have HE := Lib.hid (And.intro e1 e2)
    clear h h1 e1 e2
    go_enter Tryd.func4, Tryd.ntmps4
    go_wp2_with (first
      | (go_at_call 9; ((with_reducible refine (few_any _ _ Aa la ca).mono ?_); rw [HE.out.1]; rintro e w1 ⟨rfl, hb1⟩); have F1 := Lib.hid (HT.out.below hb1); have y0 := F1.out.zb.cell0; have y1 := F1.out.zb.cell1; clear hb1)
      | (go_at_call 9; ((with_reducible refine (few_any _ _ Ab lb cb).mono ?_); rw [HE.out.2]; rintro e w2 ⟨rfl, hb2⟩); have F2 := Lib.hid (F1.out.below hb2); clear hb2)
      | (go_at_call 10; ((with_reducible refine (alive_any _).mono ?_); rintro e w3 ⟨rfl, hb3⟩); have F3 := Lib.hid (F2.out.below hb3); clear hb3))
    go_ret
    exact ⟨rfl, F3.out.low⟩
  · have e1 : decide (la ≤ 100) = false := decide_eq_false h1
    have HE := Lib.hid e1
    clear h h1 e1
    go_enter Tryd.func4, Tryd.ntmps4
    go_wp2_with (first
      | (go_at_call 9; ((with_reducible refine (few_any _ _ Aa la ca).mono ?_); rw [HE.out]; rintro e w1 ⟨rfl, hb1⟩); have F1 := Lib.hid (HT.out.below hb1); clear hb1)
      | (go_at_call 10; ((with_reducible refine (alive_any _).mono ?_); rintro e w3 ⟨rfl, hb3⟩); have F3 := Lib.hid (F1.out.below hb3); clear hb3))
    go_ret
    exact ⟨rfl, F3.out.low⟩
theorem zone_sets_walk (x0 : Int) (A0 : Option Addr) (m0 c0 : Nat) (f0 : Nat → Int) (x1 : Int) (A1 : Option Addr) (m1 c1 : Nat) (f1 : Nat → Int) (W : World) (_ : m0 ≤ 9223372036854775807) (mc0 : m0 ≤ c0) (h0 : ZInts W A0 m0 f0) (_ : m1 ≤ 9223372036854775807) (mc1 : m1 ≤ c1) (h1 : ZInts W A1 m1 f1) :
    Calls Tryd.prog 4 #[zoneV x0 A0 m0 c0, zoneV x1 A1 m1 c1] W (RetB W true) := by
  by_cases hl : m0 ≤ 100 ∧ m1 ≤ 100
  · have z0 := zarg_of (N := x0) mc0 hl.1 h0
    have z1 := zarg_of (N := x1) mc1 hl.2 h1
    obtain ⟨hm0, hm7⟩ := zm_bd x0
    have HTw : ∀ W1, Below W.heap.size W W1 → Calls Tryd.prog 60 #[zoneV x0 A0 m0 c0, zoneV x1 A1 m1 c1] W1 (RetTwo W1 (zm x0) (zm x1) (zr x0 m0 f0) (zr x1 m1 f1)) := fun W1 hb => two_of (fun W2 h2 => close_z ((z0.below hb).below h2)) (fun W2 h2 => close_z ((z1.below hb).below h2))
    have HJ := fun W1 (hb : Below W.heap.size W W1) => join_any hm0 hm7 (fun W2 h2 => HTw W2 (hb.trans (h2.mono hb.size)))
    have HM := fun W1 (hb : Below W.heap.size W W1) => meet_any hm0 hm7 (fun W2 h2 => HTw W2 (hb.trans (h2.mono hb.size)))
    have HL := fun W1 (hb : Below W.heap.size W W1) => leq_any hm0 hm7 (fun W2 h2 => HTw W2 (hb.trans (h2.mono hb.size)))
    refine sets_in hl.1 hl.2 (fun W1 hb => rclean_z (z0.below hb)) (fun W1 hb => rclean_z (z1.below hb)) HJ HM HL hm0 hm7 ?_
    by_cases he : zm x0 = zm x1
    · rw [← he]
      exact .inr ⟨rfl, (if_pos rfl).symm, rfl, rfl, rfl⟩
    · refine .inl ⟨he, if_neg he, ?_, if_neg he, ?_⟩
      · cases zr x0 m0 f0 <;> cases zr x1 m1 f1 <;> simp [jnO, he]
      · cases zr x0 m0 f0 <;> cases zr x1 m1 f1 <;> simp [leqO, he]
  · exact sets_far hl
end Go.Proofs.YtcbkffpmclainaaDoor
