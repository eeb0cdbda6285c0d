/- The contract of Span: any zone. -/
import Derived.Test.YtlddelnbjihhgaaGreatDoorGet
import Derived.Test.YtlddelnbjihhgaaGreatDoorZSpan
import Derived.IntWalk
namespace Go.Proofs.YtlddelnbjihhgaaGreatDoor
open Go.RowKit
attribute [local go_sem ↓] Go.wp_at_zero Go.wp_at_succ
/-- The zone's box, and the span's. -/
def Gs (w W : World) (a a' b b' : Value) : Prop := Duo W w.heap.size 32 a a' ∧ Duo W (w.heap.size + 1) 36 b b' ∧ Below w.heap.size w W
theorem Gs.below {w W W1 : World} {a a' b b' : Value} (h : Gs w W a a' b b') (hb : Below W.heap.size W W1) : Gs w W1 a a' b b' := ⟨h.1.below hb, h.2.1.below hb, h.2.2.trans (hb.mono h.2.2.size)⟩
theorem Gs.drew {w W : World} {a a' b b' : Value} (h : Gs w W a a' b b') : Gs w W.drew a a' b b' := ⟨h.1, h.2.1, h.2.2.drew⟩
theorem gs_new (w : World) (a a' b b' : Value) : Gs w ((w.alloc (.cells #[a, a'] 32)).alloc (.cells #[b, b'] 36)) a a' b b' := by
  have h1 := Duo.new (w.alloc (.cells #[a, a'] 32)) 36 b b'
  simp only [World.size_alloc] at h1
  exact ⟨(Duo.new w _ _ _).alloc _, h1, ((Below.refl _ w).alloc (Nat.le_refl _) _).alloc (by simp) _⟩
theorem Gs.put {w W : World} {a a' b b' : Value} (h : Gs w W a a' b b') (x x' : Value) : Gs w ((W.setCell ⟨w.heap.size + 1, 0, none⟩ x).setCell ⟨w.heap.size + 1, 1, none⟩ x') a a' x x' :=
  ⟨(h.1.other (by simp) _).other (by simp) _, (h.2.1.set0 x).set1 x', (h.2.2.setCell (p := ⟨w.heap.size + 1, 0, none⟩) (by simp) _).setCell (p := ⟨w.heap.size + 1, 1, none⟩) (by simp) _⟩
theorem Gs.cells {w W : World} {a a' b b' : Value} (h : Gs w W a a' b b') : W.cell? ⟨w.heap.size, 0, none⟩ = some a ∧ W.cell? ⟨w.heap.size, 1, none⟩ = some a' := ⟨h.1.cell0, h.1.cell1⟩

set_option maxRecDepth 100000 in
set_option maxHeartbeats 1600000 in
theorem zspan_any {m i g cap base : Nat} {C : Mat} (hm7 : m ≤ 7) (h0 : 0 < m) (hi : i < m) (hC : Closed m C) {W : World} (o : W.ownsRow base 3 1 (.slice (some ⟨g, 0, none⟩) (m * m) cap) (m * m) ((flatL m C).map (Value.int .i64))) :
    Calls Tryz.prog 57 #[zoneV ((m : Int) - 1) (some ⟨g, 0, none⟩) (m * m) cap, .int .i64 (i : Int)] W (RetSpan (ofL (-C 0 i) (C i 0)) (ofH (-C 0 i) (C i 0)) W) := by
  have b1 := hC.bd h0 hi
  have b2 := hC.bd hi h0
  have HA : Hid (∀ X, Below W.heap.size W X → Calls Tryz.prog 40 #[zoneV ((m : Int) - 1) (some ⟨g, 0, none⟩) (m * m) cap, .int .i64 0, .int .i64 (i : Int)] X (ZRetInt (C 0 i) X)) := Lib.hid (fun X hb => at_own hm7 h0 hi (own_kept_below o hb))
  have HC : Hid (∀ X, Below W.heap.size W X → Calls Tryz.prog 40 #[zoneV ((m : Int) - 1) (some ⟨g, 0, none⟩) (m * m) cap, .int .i64 (i : Int), .int .i64 0] X (ZRetInt (C i 0) X)) := Lib.hid (fun X hb => at_own hm7 hi h0 (own_kept_below o hb))
  have G0 := Lib.hid (gs_new W (.int .i64 ((m : Int) - 1)) (.slice (some ⟨g, 0, none⟩) (m * m) cap) (.int .i64 0) (.int .i64 0)).drew
  have K0 := Lib.hid G0.out.cells
  have HB0 := Lib.hid G0.out.2.2
  have hw : IntKind.i64.wrap (-C 0 i) = -C 0 i := IntWalk.i64_in _ (by omega)
  generalize C 0 i = x at *
  generalize C i 0 = y at *
  clear o
  go_enter Tryz.func57, Tryz.ntmps57
  go_wp2_with fail
  go_region_held3 (fun w' => w'.cell? ⟨W.heap.size, 0, none⟩ = some (.int .i64 ((m : Int) - 1)) ∧ w'.cell? ⟨W.heap.size, 1, none⟩ = some (.slice (some ⟨g, 0, none⟩) (m * m) cap))
    (first | (with_reducible exact K0.out) | (with_reducible exact K1.out) | (with_reducible exact K2.out) | (with_reducible exact K3.out) | (with_reducible exact K4.out))
    (first
      | (go_at_call 40; ((with_reducible refine (HA.out _ HB0.out).mono ?_); rintro e w1 ⟨rfl, hb1⟩); have G1 := Lib.hid (G0.out.below hb1); have K1 := Lib.hid G1.out.cells; have HB1 := Lib.hid G1.out.2.2)
      | (go_at_call 40; ((with_reducible refine (HC.out _ HB1.out).mono ?_); rintro e w2 ⟨rfl, hb2⟩); have G2 := Lib.hid (G1.out.below hb2); have K2 := Lib.hid G2.out.cells; have HB2 := Lib.hid G2.out.2.2)
      | (go_at_call 83; ((with_reducible refine (of_any _ _ _).mono ?_); rintro e w3 ⟨rfl, hb3⟩); have G3 := Lib.hid (G2.out.below hb3); have K3 := Lib.hid G3.out.cells; have f0 := G3.out.2.1.cell0; have f1 := G3.out.2.1.cell1; have f2 := G3.out.2.1.frozen0; have f3 := G3.out.2.1.frozen1; have G4 := Lib.hid (G3.out.put (.int .i64 (ofL (-x) y)) (.int .i64 (ofH (-x) y))); have K4 := Lib.hid G4.out.cells))
  all_goals go_wp2_with fail
  all_goals exact bodyPost_ret (v := .agg #[.int .i64 (ofL (-x) y), .int .i64 (ofH (-x) y)]) (by simp [results, Tryz.results57, go_sem, G4.out.2.1.cell0, G4.out.2.1.cell1]) rfl ⟨rfl, G4.out.2.2⟩

def spO (m : Nat) (R : Option Mat) (i : Int) : Int × Int :=
  match R with
  | none => (1, 0)
  | some C => if namedB ((m : Int) - 1) i = true then (ofL (-C 0 i.toNat) (C i.toNat 0), ofH (-C 0 i.toNat) (C i.toNat 0)) else (1, 0)
theorem Gs.set {w W : World} {a a' b b' : Value} (h : Gs w W a a' b b') (x x' : Value) : Gs w ((W.setCell ⟨w.heap.size, 0, none⟩ x).setCell ⟨w.heap.size, 1, none⟩ x') x x' b b' :=
  ⟨(h.1.set0 x).set1 x', (h.2.1.other (by simp) _).other (by simp) _, (h.2.2.setCell (p := ⟨w.heap.size, 0, none⟩) (by simp) _).setCell (p := ⟨w.heap.size, 1, none⟩) (by simp) _⟩

set_option maxRecDepth 100000 in
set_option maxHeartbeats 1600000 in
theorem span_none {w : World} {N : Int} {Az : Option Addr} {lz cz m : Nat} {i : Int} 
    (K : ∀ W, Below w.heap.size w W → Calls Tryz.prog 34 #[zoneV N Az lz cz] W (RetC W m none)) :
    Calls Tryz.prog 21 #[zoneV N Az lz cz, .int .i64 i] w (RetSpan (1) (0) w) := by
  have HT := Lib.hid (gs_new w (.int .i64 N) (.slice Az lz cz) (.int .i64 0) (.int .i64 0))
  have HB := Lib.hid HT.out.2.2
  have HK := Lib.hid K
  clear K
  have e0 : rlen m (none : Option Mat) = 0 := rfl
  go_enter Tryz.func21, Tryz.ntmps21
  go_wp2_with (first
    | (go_at_call 34; ((with_reducible refine (HK.out _ HB.out).mono ?_); rintro e w1 ⟨A, c1, rfl, hz1, hb1⟩); have hF1 : Gs w w1 _ _ _ _ := Gs.below HT.out hb1; have y0 := hF1.1.cell0; have y1 := hF1.1.cell1; have y4 := hF1.1.frozen0; have y5 := hF1.1.frozen1)
    | (go_at_call 35; ((with_reducible refine (none_any _ _ _ _ _).mono ?_); rintro e w3 ⟨rfl, hb3⟩); have hF2 := (hF1.set (.int .i64 ((m : Int) - 1)) (.slice A 0 c1)).below hb3; have hZ2 := ((hz1.setCell (a := ⟨w.heap.size, 0, none⟩) (by simp; omega) (.int .i64 ((m : Int) - 1))).setCell (a := ⟨w.heap.size, 1, none⟩) (by simp; omega) (.slice A 0 c1)).below hb3; have p0 := hF2.1.cell0; have p1 := hF2.1.cell1; have p2 := hF2.2.1.cell0; have p3 := hF2.2.1.cell1; have p4 := hF2.2.1.frozen0; have p5 := hF2.2.1.frozen1)
    | (go_at_call 56; ((with_reducible refine (empty_any _).mono ?_); rintro e w5 ⟨rfl, hb5⟩); have hF4 := hF2.below hb5; have r0 := hF4.1.cell0; have r1 := hF4.1.cell1; have r2 := hF4.2.1.cell0; have r3 := hF4.2.1.cell1; have r4 := hF4.2.1.frozen0; have r5 := hF4.2.1.frozen1))
  have hL := hF4.put (.int .i64 (1)) (.int .i64 (0))
  have l0 := hL.2.1.cell0
  have l1 := hL.2.1.cell1
  exact bodyPost_ret (v := .agg #[.int .i64 (1), .int .i64 (0)]) (by simp [results, Tryz.results21, go_sem, l0, l1]) rfl ⟨rfl, hL.2.2⟩

set_option maxRecDepth 100000 in
set_option maxHeartbeats 1600000 in
theorem span_out {w : World} {N : Int} {Az : Option Addr} {lz cz m : Nat} {i : Int} {C : Mat} (h0 : 0 < m) (k1 : namedB ((m : Int) - 1) i = false)
    (K : ∀ W, Below w.heap.size w W → Calls Tryz.prog 34 #[zoneV N Az lz cz] W (RetC W m (some C))) :
    Calls Tryz.prog 21 #[zoneV N Az lz cz, .int .i64 i] w (RetSpan (1) (0) w) := by
  have HT := Lib.hid (gs_new w (.int .i64 N) (.slice Az lz cz) (.int .i64 0) (.int .i64 0))
  have HB := Lib.hid HT.out.2.2
  have HK := Lib.hid K
  clear K
  have e1 : rlen m (some C) = m * m := rfl
  have e2 := sq_pos h0
  go_enter Tryz.func21, Tryz.ntmps21
  go_wp2_with (first
    | (go_at_call 34; ((with_reducible refine (HK.out _ HB.out).mono ?_); rintro e w1 ⟨A, c1, rfl, hz1, hb1⟩); have hF1 : Gs w w1 _ _ _ _ := Gs.below HT.out hb1; have y0 := hF1.1.cell0; have y1 := hF1.1.cell1; have y4 := hF1.1.frozen0; have y5 := hF1.1.frozen1)
    | (go_at_call 35; ((with_reducible refine (none_any _ _ _ _ _).mono ?_); rintro e w3 ⟨rfl, hb3⟩); have hF2 := (hF1.set (.int .i64 ((m : Int) - 1)) (.slice A (m * m) c1)).below hb3; have hZ2 := ((hz1.setCell (a := ⟨w.heap.size, 0, none⟩) (by simp; omega) (.int .i64 ((m : Int) - 1))).setCell (a := ⟨w.heap.size, 1, none⟩) (by simp; omega) (.slice A (m * m) c1)).below hb3; have p0 := hF2.1.cell0; have p1 := hF2.1.cell1; have p2 := hF2.2.1.cell0; have p3 := hF2.2.1.cell1; have p4 := hF2.2.1.frozen0; have p5 := hF2.2.1.frozen1)
    | (go_at_call 36; ((with_reducible refine (named_any _ _ _ _ _ _).mono ?_); rintro e w4 ⟨rfl, hb4⟩); have hF3 := hF2.below hb4; have hZ3 := hZ2.below hb4; have q0 := hF3.1.cell0; have q1 := hF3.1.cell1; have q2 := hF3.2.1.cell0; have q3 := hF3.2.1.cell1; have q4 := hF3.2.1.frozen0; have q5 := hF3.2.1.frozen1)
    | (go_at_call 56; ((with_reducible refine (empty_any _).mono ?_); rintro e w5 ⟨rfl, hb5⟩); have hF4 := hF3.below hb5; have r0 := hF4.1.cell0; have r1 := hF4.1.cell1; have r2 := hF4.2.1.cell0; have r3 := hF4.2.1.cell1; have r4 := hF4.2.1.frozen0; have r5 := hF4.2.1.frozen1))
  have hL := hF4.put (.int .i64 (1)) (.int .i64 (0))
  have l0 := hL.2.1.cell0
  have l1 := hL.2.1.cell1
  exact bodyPost_ret (v := .agg #[.int .i64 (1), .int .i64 (0)]) (by simp [results, Tryz.results21, go_sem, l0, l1]) rfl ⟨rfl, hL.2.2⟩

set_option maxRecDepth 100000 in
set_option maxHeartbeats 1600000 in
theorem span_in {w : World} {N : Int} {Az : Option Addr} {lz cz m : Nat} {i : Int} {C : Mat} (h0 : 0 < m) (h7 : m ≤ 7) (k1 : namedB ((m : Int) - 1) i = true)
    (K : ∀ W, Below w.heap.size w W → Calls Tryz.prog 34 #[zoneV N Az lz cz] W (RetC W m (some C))) :
    Calls Tryz.prog 21 #[zoneV N Az lz cz, .int .i64 i] w (RetSpan (ofL (-C 0 i.toNat) (C i.toNat 0)) (ofH (-C 0 i.toNat) (C i.toNat 0)) w) := by
  have HT := Lib.hid (gs_new w (.int .i64 N) (.slice Az lz cz) (.int .i64 0) (.int .i64 0))
  have HB := Lib.hid HT.out.2.2
  have HK := Lib.hid K
  clear K
  obtain ⟨i0, rfl⟩ : ∃ a : Nat, i = a := ⟨i.toNat, by simp [namedB] at k1; omega⟩
  have hi : i0 < m := by simp [namedB] at k1; omega
  have e3 : ((i0 : Int).toNat) = i0 := by simp
  rw [e3]
  clear e3
  have e1 : rlen m (some C) = m * m := rfl
  have e2 := sq_pos h0
  go_enter Tryz.func21, Tryz.ntmps21
  go_wp2_with (first
    | (go_at_call 34; ((with_reducible refine (HK.out _ HB.out).mono ?_); rintro e w1 ⟨A, c1, rfl, hz1, hb1⟩); have hF1 : Gs w w1 _ _ _ _ := Gs.below HT.out hb1; have y0 := hF1.1.cell0; have y1 := hF1.1.cell1; have y4 := hF1.1.frozen0; have y5 := hF1.1.frozen1)
    | (go_at_call 35; ((with_reducible refine (none_any _ _ _ _ _).mono ?_); rintro e w3 ⟨rfl, hb3⟩); have hF2 := (hF1.set (.int .i64 ((m : Int) - 1)) (.slice A (m * m) c1)).below hb3; have hZ2 := ((hz1.setCell (a := ⟨w.heap.size, 0, none⟩) (by simp; omega) (.int .i64 ((m : Int) - 1))).setCell (a := ⟨w.heap.size, 1, none⟩) (by simp; omega) (.slice A (m * m) c1)).below hb3; have p0 := hF2.1.cell0; have p1 := hF2.1.cell1; have p2 := hF2.2.1.cell0; have p3 := hF2.2.1.cell1; have p4 := hF2.2.1.frozen0; have p5 := hF2.2.1.frozen1)
    | (go_at_call 36; ((with_reducible refine (named_any _ _ _ _ _ _).mono ?_); rintro e w4 ⟨rfl, hb4⟩); have hF3 := hF2.below hb4; have hZ3 := hZ2.below hb4; have q0 := hF3.1.cell0; have q1 := hF3.1.cell1; have q2 := hF3.2.1.cell0; have q3 := hF3.2.1.cell1; have q4 := hF3.2.1.frozen0; have q5 := hF3.2.1.frozen1)
    | (go_at_call 56; ((with_reducible refine (empty_any _).mono ?_); rintro e w5 ⟨rfl, hb5⟩); have hF4 := hF3.below hb5; have r0 := hF4.1.cell0; have r1 := hF4.1.cell1; have r2 := hF4.2.1.cell0; have r3 := hF4.2.1.cell1; have r4 := hF4.2.1.frozen0; have r5 := hF4.2.1.frozen1))
  obtain ⟨g, rfl, hC, o⟩ := zres_some hZ3
  have HF3 := Lib.hid hF3
  refine (zspan_any h7 h0 hi hC o).mono ?_
  rintro e w6 ⟨rfl, hb6⟩
  have hF6 := HF3.out.below hb6
  have r0 := hF6.1.cell0
  have r1 := hF6.1.cell1
  have r2 := hF6.2.1.cell0
  have r3 := hF6.2.1.cell1
  have r4 := hF6.2.1.frozen0
  have r5 := hF6.2.1.frozen1
  have HF6 := Lib.hid hF6
  clear p0 p1 p2 p3 p4 p5 q0 q1 q2 q3 q4 q5 y0 y1 y4 y5 hF1 hF2 hF3 hZ2 hZ3 hb1 hb3 hb4 hz1 o hC hb6 hF6
  go_wp2_with fail
  have hL := HF6.out.put (.int .i64 (ofL (-C 0 i0) (C i0 0))) (.int .i64 (ofH (-C 0 i0) (C i0 0)))
  have l0 := hL.2.1.cell0
  have l1 := hL.2.1.cell1
  exact bodyPost_ret (v := .agg #[.int .i64 (ofL (-C 0 i0) (C i0 0)), .int .i64 (ofH (-C 0 i0) (C i0 0))]) (by simp [results, Tryz.results21, go_sem, l0, l1]) rfl ⟨rfl, hL.2.2⟩

theorem span_any {w : World} {N : Int} {Az : Option Addr} {lz cz m : Nat} {R : Option Mat} {i : Int} (h0 : 0 < m) (h7 : m ≤ 7)
    (K : ∀ W, Below w.heap.size w W → Calls Tryz.prog 34 #[zoneV N Az lz cz] W (RetC W m R)) :
    Calls Tryz.prog 21 #[zoneV N Az lz cz, .int .i64 i] w (RetSpan (spO m R i).1 (spO m R i).2 w) := by
  cases R with
  | none => exact span_none K
  | some C =>
    unfold spO
    cases k1 : namedB ((m : Int) - 1) i
    · exact span_out h0 k1 K
    · exact span_in h0 h7 k1 K
end Go.Proofs.YtlddelnbjihhgaaGreatDoor
