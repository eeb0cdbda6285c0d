/- ZoneSame: the walk. -/
import Derived.Test.YtjolpplghokngaaDoorSameNums
import Derived.Test.YtjolpplghokngaaDoorZAlive
namespace Go.Proofs.YtjolpplghokngaaDoor
open Go.RowKit
attribute [local go_sem ↓] Go.wp_at_zero Go.wp_at_succ

/-- Two boxes of the document's zones. -/
def Dz (w W : World) (a a' b b' : Value) : Prop := Duo W w.heap.size 24 a a' ∧ Duo W (w.heap.size + 1) 24 b b' ∧ Below w.heap.size w W
theorem Dz.below {w W W1 : World} {a a' b b' : Value} (h : Dz w W a a' b b') (hb : Below W.heap.size W W1) : Dz w W1 a a' b b' := ⟨h.1.below hb, h.2.1.below hb, h.2.2.trans (hb.mono h.2.2.size)⟩
theorem Dz.drew {w W : World} {a a' b b' : Value} (h : Dz w W a a' b b') : Dz w W.drew a a' b b' := ⟨h.1, h.2.1, h.2.2.drew⟩
theorem dz_new (w : World) (a a' b b' : Value) : Dz w ((w.alloc (.cells #[a, a'] 24)).alloc (.cells #[b, b'] 24)) a a' b b' := by
  have h1 := Duo.new (w.alloc (.cells #[a, a'] 24)) 24 b b'
  simp only [World.size_alloc] at h1
  exact ⟨(Duo.new w _ _ _).alloc _, h1, ((Below.refl _ w).alloc (Nat.le_refl _) _).alloc (by simp) _⟩
theorem Dz.cells {w W : World} {a a' b b' : Value} (h : Dz w W a a' b b') : W.cell? ⟨w.heap.size, 0, none⟩ = some a ∧ W.cell? ⟨w.heap.size, 1, none⟩ = some a' ∧ W.cell? ⟨w.heap.size + 1, 0, none⟩ = some b ∧ W.cell? ⟨w.heap.size + 1, 1, none⟩ = some b' := ⟨h.1.cell0, h.1.cell1, h.2.1.cell0, h.2.1.cell1⟩

set_option maxRecDepth 100000 in
set_option maxHeartbeats 3200000 in
/-- One of them has more than 100 bounds. -/
theorem same_far {w : World} {Na Nb : Int} {Aa Ab : Option Addr} {la lb ca cb : Nat} (h : ¬ (la ≤ 100 ∧ lb ≤ 100)) :
    Calls Tryd.prog 7 #[zoneV Na Aa la ca, zoneV Nb Ab lb cb] w (RetB w true) := by
  have HT := Lib.hid (dz_new w (.int .i64 Na) (.slice Aa la ca) (.int .i64 Nb) (.slice Ab lb cb))
  by_cases h1 : la ≤ 100
  · have e1 : decide (la ≤ 100) = true := decide_eq_true h1
    have e2 : decide (lb ≤ 100) = false := decide_eq_false (by omega)
    have HE := Lib.hid (And.intro e1 e2)
    clear h h1 e1 e2
    go_enter Tryd.func7, Tryd.ntmps7
    go_wp2_with (first
      | (go_at_call 8; ((with_reducible refine (few_any _ _ Aa la ca).mono ?_); rw [HE.out.1]; rintro e w1 ⟨rfl, hb1⟩); have F1 := HT.out.below hb1; have y0 := F1.2.1.cell0; have y1 := F1.2.1.cell1)
      | (go_at_call 8; ((with_reducible refine (few_any _ _ Ab lb cb).mono ?_); rw [HE.out.2]; rintro e w2 ⟨rfl, hb2⟩); have F2 := F1.below hb2; have HB2 := Lib.hid F2.2.2)
      | (go_at_call 9; ((with_reducible refine (alive_any _).mono ?_); rintro e w3 ⟨rfl, hb3⟩)))
    go_ret
    exact ⟨rfl, HB2.out.trans (hb3.mono HB2.out.size)⟩
  · have e1 : decide (la ≤ 100) = false := decide_eq_false h1
    have HE := Lib.hid e1
    clear h h1 e1
    go_enter Tryd.func7, Tryd.ntmps7
    go_wp2_with (first
      | (go_at_call 8; ((with_reducible refine (few_any _ _ Aa la ca).mono ?_); rw [HE.out]; rintro e w1 ⟨rfl, hb1⟩); have F1 := HT.out.below hb1; have HB1 := Lib.hid F1.2.2)
      | (go_at_call 9; ((with_reducible refine (alive_any _).mono ?_); rintro e w3 ⟨rfl, hb3⟩)))
    go_ret
    exact ⟨rfl, HB1.out.trans (hb3.mono HB1.out.size)⟩
end Go.Proofs.YtjolpplghokngaaDoor
