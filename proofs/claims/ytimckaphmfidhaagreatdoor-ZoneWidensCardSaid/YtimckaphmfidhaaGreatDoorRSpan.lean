/- The contract of the document's Span: any right zone, any number. -/
import Derived.Test.YtimckaphmfidhaaGreatDoorRSteps
import Derived.Test.YtimckaphmfidhaaGreatDoorSpRefBase
import Derived.Test.YtimckaphmfidhaaGreatDoorGSmall
namespace Go.Proofs.YtimckaphmfidhaaGreatDoor
open Go.RowKit
attribute [local go_sem ↓] Go.wp_at_zero Go.wp_at_succ

/-- The zone's box, and the span's. -/
def Rs (w W : World) (a a' b b' : Value) : Prop := Duo W w.heap.size 24 a a' ∧ Duo W (w.heap.size + 1) 78 b b' ∧ Below w.heap.size w W
theorem Rs.below {w W W1 : World} {a a' b b' : Value} (h : Rs w W a a' b b') (hb : Below W.heap.size W W1) : Rs w W1 a a' b b' := ⟨h.1.below hb, h.2.1.below hb, h.2.2.trans (hb.mono h.2.2.size)⟩
theorem Rs.drew {w W : World} {a a' b b' : Value} (h : Rs w W a a' b b') : Rs w W.drew a a' b b' := ⟨h.1, h.2.1, h.2.2.drew⟩
theorem rs_new (w : World) (a a' b b' : Value) : Rs w ((w.alloc (.cells #[a, a'] 24)).alloc (.cells #[b, b'] 78)) a a' b b' := by
  have h1 := Duo.new (w.alloc (.cells #[a, a'] 24)) 78 b b'
  simp only [World.size_alloc] at h1
  exact ⟨(Duo.new w _ _ _).alloc _, h1, ((Below.refl _ w).alloc (Nat.le_refl _) _).alloc (by simp) _⟩
theorem Rs.put {w W : World} {a a' b b' : Value} (h : Rs w W a a' b b') (x x' : Value) : Rs w ((W.setCell ⟨w.heap.size + 1, 0, none⟩ x).setCell ⟨w.heap.size + 1, 1, none⟩ x') a a' x x' :=
  ⟨(h.1.other (by simp) _).other (by simp) _, (h.2.1.set0 x).set1 x', (h.2.2.setCell (p := ⟨w.heap.size + 1, 0, none⟩) (by simp) _).setCell (p := ⟨w.heap.size + 1, 1, none⟩) (by simp) _⟩
theorem Rs.cells {w W : World} {a a' b b' : Value} (h : Rs w W a a' b b') : W.cell? ⟨w.heap.size, 0, none⟩ = some a ∧ W.cell? ⟨w.heap.size, 1, none⟩ = some a' := ⟨h.1.cell0, h.1.cell1⟩
section
variable {w : World} {m : Nat} {R : Option Mat} {A : Option Addr} {base c : Nat} {i : Int}
set_option maxRecDepth 100000 in
set_option maxHeartbeats 1600000 in
theorem rspan_none (N i : Int) (W : World) : Calls Tryz.prog 48 #[zoneV N A 0 c, .int .i64 i] W (RetSpan 1 0 W) := by
  go_enter Tryz.func48, Tryz.ntmps48
  go_wp2_with fail
  exact bodyPost_ret (v := .agg #[.int .i64 1, .int .i64 0]) (by simp [results, Tryz.results48, go_sem]) rfl ⟨rfl, (rs_new W _ _ _ _).2.2⟩
theorem unnamed {n i : Int} (h : namedB n i = false) : decide (i < 1) = true ∨ (decide (i < 1) = false ∧ decide (n < i) = true) := by
  simp only [namedB, Bool.and_eq_false_iff, decide_eq_false_iff_not, decide_eq_true_eq] at *
  omega
set_option maxRecDepth 100000 in
set_option maxHeartbeats 1600000 in
theorem rspan_out (h0 : 0 < m) (i : Int) (W : World) (h : namedB ((m : Int) - 1) i = false) : Calls Tryz.prog 48 #[zoneV ((m : Int) - 1) A (m * m) c, .int .i64 i] W (RetSpan 1 0 W) := by
  have hmm : 0 < m * m := Nat.mul_pos h0 h0
  have q0 : (((m * m : Nat) : Int) == 0) = false := by simp; omega
  have q1 : decide (m * m = 0) = false := decide_eq_false (by omega)
  have q3 : ((m : Int) * (m : Int) == 0) = false := by rw [← Int.natCast_mul]; exact q0
  have q4 : decide ((m : Int) * (m : Int) = 0) = false := by rw [← Int.natCast_mul]; exact decide_eq_false (by omega)
  clear hmm
  rcases unnamed h with d1 | ⟨d1, d2⟩ <;> clear h
  all_goals
    go_enter Tryz.func48, Tryz.ntmps48
    go_wp2_with fail
    exact bodyPost_ret (v := .agg #[.int .i64 1, .int .i64 0]) (by simp [results, Tryz.results48, go_sem]) rfl ⟨rfl, (rs_new W _ _ _ _).2.2⟩
set_option maxRecDepth 100000 in
set_option maxHeartbeats 1600000 in
theorem rspan_in {g i0 : Nat} {C : Mat} (h0 : 0 < m) (h7 : m ≤ 7) (h1 : 1 ≤ i0) (hi : i0 < m) (hC : Closed m C) (W : World) (hp : RP m g c C W) :
    Calls Tryz.prog 48 #[zoneV ((m : Int) - 1) (some ⟨g, 0, none⟩) (m * m) c, .int .i64 (i0 : Int)] W (RetSpan (ofL (-C 0 i0) (C i0 0)) (ofH (-C 0 i0) (C i0 0)) W) := by
  have b1 := hC.bd h0 hi
  have b2 := hC.bd hi h0
  have HA : Hid (∀ X, Below W.heap.size W X → Calls Tryz.prog 50 #[zoneV ((m : Int) - 1) (some ⟨g, 0, none⟩) (m * m) c, .int .i64 0, .int .i64 (i0 : Int)] X (RetI X (C 0 i0))) := Lib.hid (fun X hb => rget_in h7 (hp.below hb) h0 hi)
  have HC : Hid (∀ X, Below W.heap.size W X → Calls Tryz.prog 50 #[zoneV ((m : Int) - 1) (some ⟨g, 0, none⟩) (m * m) c, .int .i64 (i0 : Int), .int .i64 0] X (RetI X (C i0 0))) := Lib.hid (fun X hb => rget_in h7 (hp.below hb) hi h0)
  have G0 := Lib.hid (rs_new W (.int .i64 ((m : Int) - 1)) (.slice (some ⟨g, 0, none⟩) (m * m) c) (.int .i64 0) (.int .i64 0)).drew
  have K0 := Lib.hid G0.out.cells
  have HB0 := Lib.hid G0.out.2.2
  have hw : IntKind.i64.wrap (-C 0 i0) = -C 0 i0 := IntWalk.i64_in _ (by omega)
  have hmm : 0 < m * m := Nat.mul_pos h0 h0
  have q0 : (((m * m : Nat) : Int) == 0) = false := by simp; omega
  have q1 : decide (m * m = 0) = false := decide_eq_false (by omega)
  have q3 : ((m : Int) * (m : Int) == 0) = false := by rw [← Int.natCast_mul]; exact q0
  have q4 : decide ((m : Int) * (m : Int) = 0) = false := by rw [← Int.natCast_mul]; exact decide_eq_false (by omega)
  have d1 : decide ((i0 : Int) < 1) = false := decide_eq_false (by omega)
  have d2 : decide ((m : Int) - 1 < (i0 : Int)) = false := decide_eq_false (by omega)
  generalize C 0 i0 = x at *
  generalize C i0 0 = y at *
  clear hp hmm hC
  go_enter Tryz.func48, Tryz.ntmps48
  go_wp2_with fail
  go_region_held3 (fun w' => w'.cell? ⟨W.heap.size, 0, none⟩ = some (.int .i64 ((m : Int) - 1)) ∧ w'.cell? ⟨W.heap.size, 1, none⟩ = some (.slice (some ⟨g, 0, none⟩) (m * m) c))
    (first | (with_reducible exact K0.out) | (with_reducible exact K1.out) | (with_reducible exact K2.out) | (with_reducible exact K3.out) | (with_reducible exact K4.out))
    (first
      | (go_at_call 50; ((with_reducible refine (HA.out _ HB0.out).mono ?_); rintro e w1 ⟨rfl, hb1⟩); have G1 := Lib.hid (G0.out.below hb1); have K1 := Lib.hid G1.out.cells; have HB1 := Lib.hid G1.out.2.2)
      | (go_at_call 50; ((with_reducible refine (HC.out _ HB1.out).mono ?_); rintro e w2 ⟨rfl, hb2⟩); have G2 := Lib.hid (G1.out.below hb2); have K2 := Lib.hid G2.out.cells; have HB2 := Lib.hid G2.out.2.2)
      | (go_at_call 98; ((with_reducible refine (Sp.rof_any _ _ _).mono ?_); rintro e w3 ⟨rfl, hb3⟩); have G3 := Lib.hid (G2.out.below hb3); have K3 := Lib.hid G3.out.cells; have f0 := G3.out.2.1.cell0; have f1 := G3.out.2.1.cell1; have f2 := G3.out.2.1.frozen0; have f3 := G3.out.2.1.frozen1; have G4 := Lib.hid (G3.out.put (.int .i64 (ofL (-x) y)) (.int .i64 (ofH (-x) y))); have K4 := Lib.hid G4.out.cells))
  all_goals go_wp2_with fail
  all_goals exact bodyPost_ret (v := .agg #[.int .i64 (ofL (-x) y), .int .i64 (ofH (-x) y)]) (by simp [results, Tryz.results48, go_sem, G4.out.2.1.cell0, G4.out.2.1.cell1]) rfl ⟨rfl, G4.out.2.2⟩
theorem rspan_any (h0 : 0 < m) (h7 : m ≤ 7) (hz : ZRes w base m R (zoneV ((m : Int) - 1) A (rlen m R) c)) :
    Calls Tryz.prog 48 #[zoneV ((m : Int) - 1) A (rlen m R) c, .int .i64 i] w (RetSpan (spO m R i).1 (spO m R i).2 w) := by
  cases R with
  | none => exact rspan_none _ i w
  | some C =>
    cases k : namedB ((m : Int) - 1) i
    · rw [show spO m (some C) i = (1, 0) from if_neg (by rw [k]; decide)]
      exact rspan_out h0 i w k
    · rw [show spO m (some C) i = (ofL (-C 0 i.toNat) (C i.toNat 0), ofH (-C 0 i.toNat) (C i.toNat 0)) from if_pos k]
      obtain ⟨i0, rfl, h1, h2⟩ := named_nat k
      rw [Int.toNat_natCast]
      obtain ⟨g, rfl, hp, hC⟩ := rp_of hz
      exact rspan_in h0 h7 h1 h2 hC w hp
end
end Go.Proofs.YtimckaphmfidhaaGreatDoor
