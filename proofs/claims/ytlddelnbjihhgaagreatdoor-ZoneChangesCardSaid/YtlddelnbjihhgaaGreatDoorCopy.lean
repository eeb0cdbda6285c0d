/- The contract of Copy: any zone, any two variables, any number. -/
import Derived.Test.YtlddelnbjihhgaaGreatDoorShift
import Derived.Test.YtlddelnbjihhgaaGreatDoorGuard
namespace Go.Proofs.YtlddelnbjihhgaaGreatDoor
open Go.RowKit
attribute [local go_sem ↓] Go.wp_at_zero Go.wp_at_succ

/-- What Copy makes where i and j are two. -/
def cpyM (m : Nat) (C : Mat) (i j : Nat) (c : Int) : Mat := grd (grd (lev (fgt C i) m) i j c) j i (-c)
def cpyO (m : Nat) (R : Option Mat) (i j c : Int) : Option Mat :=
  match R with
  | none => none
  | some C =>
    if (namedB ((m : Int) - 1) i && namedB ((m : Int) - 1) j) = true then
      (if c < -2305843009213693952 ∨ 2305843009213693952 < c then none else if i = j then setR m (shf C i.toNat c) else setR m (cpyM m C i.toNat j.toNat c))
    else some C
theorem named_nat {m : Nat} {i : Int} (k : namedB ((m : Int) - 1) i = true) : ∃ a : Nat, i = a ∧ 1 ≤ a ∧ a < m := by
  simp [namedB] at k
  exact ⟨i.toNat, by omega, by omega, by omega⟩

set_option maxRecDepth 100000 in
set_option maxHeartbeats 3200000 in
theorem copy_none {w : World} {N : Int} {Az : Option Addr} {lz cz m : Nat} {i j c : Int} 
    (K : ∀ W, Below w.heap.size w W → Calls Tryz.prog 34 #[zoneV N Az lz cz] W (RetC W m none)) :
    Calls Tryz.prog 11 #[zoneV N Az lz cz, .int .i64 i, .int .i64 j, .int .i64 c] w (RetC w m none) := by
  have HT := Lib.hid (two_boxes w 32 (.int .i64 N) (.slice Az lz cz) (.int .i64 0) (.slice none 0 0))
  have HL := Lib.hid HT.out.2.2
  have HK := Lib.hid K
  clear K
  have e0 : rlen m (none : Option Mat) = 0 := rfl
  go_enter Tryz.func11, Tryz.ntmps11
  go_wp2_with (first
    | (go_at_call 34; ((with_reducible refine (HK.out _ HL.out).mono ?_); rintro e w1 ⟨A, c1, rfl, hz1, hb1⟩); have hF1 : Gd w w1 _ _ _ _ := Gd.below HT.out hb1; have y0 := hF1.1.cell0; have y1 := hF1.1.cell1; have y4 := hF1.1.frozen0; have y5 := hF1.1.frozen1)
    | (go_at_call 35; ((with_reducible refine (none_any _ _ _ _ _).mono ?_); rintro e w3 ⟨rfl, hb3⟩); have hF2 := (hF1.put (.int .i64 ((m : Int) - 1)) (.slice A 0 c1)).below hb3; have hZ2 := ((hz1.setCell (a := ⟨w.heap.size, 0, none⟩) (by simp <;> omega) (.int .i64 ((m : Int) - 1))).setCell (a := ⟨w.heap.size, 1, none⟩) (by simp <;> omega) (.slice A 0 c1)).below hb3; have p0 := hF2.1.cell0; have p1 := hF2.1.cell1; have p2 := hF2.2.1.cell0; have p3 := hF2.2.1.cell1; have p4 := hF2.2.1.frozen0; have p5 := hF2.2.1.frozen1))
  have hD := ((hF2.2.1.set0 (.int .i64 ((m : Int) - 1))).set1 (.slice A 0 c1))
  exact post_cell (rb := w.heap.size + 1) Tryz.results11 rfl rfl hD ⟨A, c1, rfl, ((hZ2.lower (by simp <;> omega)).setBox hF2.2.1 _).setBox (hF2.2.1.set0 _) _, (hF2.2.2.setCell (p := ⟨w.heap.size + 1, 0, none⟩) (by simp) _).setCell (p := ⟨w.heap.size + 1, 1, none⟩) (by simp) _⟩

set_option maxRecDepth 100000 in
set_option maxHeartbeats 3200000 in
theorem copy_out1 {w : World} {N : Int} {Az : Option Addr} {lz cz m : Nat} {i j c : Int} {C : Mat} (h0 : 0 < m) (k1 : namedB ((m : Int) - 1) i = false)
    (K : ∀ W, Below w.heap.size w W → Calls Tryz.prog 34 #[zoneV N Az lz cz] W (RetC W m (some C))) :
    Calls Tryz.prog 11 #[zoneV N Az lz cz, .int .i64 i, .int .i64 j, .int .i64 c] w (RetC w m (some C)) := by
  have HT := Lib.hid (two_boxes w 32 (.int .i64 N) (.slice Az lz cz) (.int .i64 0) (.slice none 0 0))
  have HL := Lib.hid HT.out.2.2
  have HK := Lib.hid K
  clear K
  have e1 : rlen m (some C) = m * m := rfl
  have e2 := sq_pos h0
  go_enter Tryz.func11, Tryz.ntmps11
  go_wp2_with (first
    | (go_at_call 34; ((with_reducible refine (HK.out _ HL.out).mono ?_); rintro e w1 ⟨A, c1, rfl, hz1, hb1⟩); have hF1 : Gd w w1 _ _ _ _ := Gd.below HT.out hb1; have y0 := hF1.1.cell0; have y1 := hF1.1.cell1; have y4 := hF1.1.frozen0; have y5 := hF1.1.frozen1)
    | (go_at_call 35; ((with_reducible refine (none_any _ _ _ _ _).mono ?_); rintro e w3 ⟨rfl, hb3⟩); have hF2 := (hF1.put (.int .i64 ((m : Int) - 1)) (.slice A (m * m) c1)).below hb3; have hZ2 := ((hz1.setCell (a := ⟨w.heap.size, 0, none⟩) (by simp <;> omega) (.int .i64 ((m : Int) - 1))).setCell (a := ⟨w.heap.size, 1, none⟩) (by simp <;> omega) (.slice A (m * m) c1)).below hb3; have p0 := hF2.1.cell0; have p1 := hF2.1.cell1; have p2 := hF2.2.1.cell0; have p3 := hF2.2.1.cell1; have p4 := hF2.2.1.frozen0; have p5 := hF2.2.1.frozen1)
    | (go_at_call 36; ((with_reducible refine (named_any _ _ _ _ _ _).mono ?_); rintro e w4 ⟨rfl, hb4⟩); have hF3 := hF2.below hb4; have hZ3 := hZ2.below hb4; have q0 := hF3.1.cell0; have q1 := hF3.1.cell1; have q2 := hF3.2.1.cell0; have q3 := hF3.2.1.cell1; have q4 := hF3.2.1.frozen0; have q5 := hF3.2.1.frozen1))
  have hD := ((hF3.2.1.set0 (.int .i64 ((m : Int) - 1))).set1 (.slice A (m * m) c1))
  exact post_cell (rb := w.heap.size + 1) Tryz.results11 rfl rfl hD ⟨A, c1, rfl, ((hZ3.lower (by simp <;> omega)).setBox hF3.2.1 _).setBox (hF3.2.1.set0 _) _, (hF3.2.2.setCell (p := ⟨w.heap.size + 1, 0, none⟩) (by simp) _).setCell (p := ⟨w.heap.size + 1, 1, none⟩) (by simp) _⟩

set_option maxRecDepth 100000 in
set_option maxHeartbeats 3200000 in
theorem copy_out2 {w : World} {N : Int} {Az : Option Addr} {lz cz m : Nat} {i j c : Int} {C : Mat} (h0 : 0 < m) (k1 : namedB ((m : Int) - 1) i = true) (k2 : namedB ((m : Int) - 1) j = false)
    (K : ∀ W, Below w.heap.size w W → Calls Tryz.prog 34 #[zoneV N Az lz cz] W (RetC W m (some C))) :
    Calls Tryz.prog 11 #[zoneV N Az lz cz, .int .i64 i, .int .i64 j, .int .i64 c] w (RetC w m (some C)) := by
  have HT := Lib.hid (two_boxes w 32 (.int .i64 N) (.slice Az lz cz) (.int .i64 0) (.slice none 0 0))
  have HL := Lib.hid HT.out.2.2
  have HK := Lib.hid K
  clear K
  have e1 : rlen m (some C) = m * m := rfl
  have e2 := sq_pos h0
  go_enter Tryz.func11, Tryz.ntmps11
  go_wp2_with (first
    | (go_at_call 34; ((with_reducible refine (HK.out _ HL.out).mono ?_); rintro e w1 ⟨A, c1, rfl, hz1, hb1⟩); have hF1 : Gd w w1 _ _ _ _ := Gd.below HT.out hb1; have y0 := hF1.1.cell0; have y1 := hF1.1.cell1; have y4 := hF1.1.frozen0; have y5 := hF1.1.frozen1)
    | (go_at_call 35; ((with_reducible refine (none_any _ _ _ _ _).mono ?_); rintro e w3 ⟨rfl, hb3⟩); have hF2 := (hF1.put (.int .i64 ((m : Int) - 1)) (.slice A (m * m) c1)).below hb3; have hZ2 := ((hz1.setCell (a := ⟨w.heap.size, 0, none⟩) (by simp <;> omega) (.int .i64 ((m : Int) - 1))).setCell (a := ⟨w.heap.size, 1, none⟩) (by simp <;> omega) (.slice A (m * m) c1)).below hb3; have p0 := hF2.1.cell0; have p1 := hF2.1.cell1; have p2 := hF2.2.1.cell0; have p3 := hF2.2.1.cell1; have p4 := hF2.2.1.frozen0; have p5 := hF2.2.1.frozen1)
    | (go_at_call 36; ((with_reducible refine (named_any _ _ _ _ _ _).mono ?_); rintro e w4 ⟨rfl, hb4⟩); have hF3 := hF2.below hb4; have hZ3 := hZ2.below hb4; have q0 := hF3.1.cell0; have q1 := hF3.1.cell1; have q2 := hF3.2.1.cell0; have q3 := hF3.2.1.cell1; have q4 := hF3.2.1.frozen0; have q5 := hF3.2.1.frozen1)
    | (go_at_call 36; ((with_reducible refine (named_any _ _ _ _ _ _).mono ?_); rintro e w5 ⟨rfl, hb5⟩); have hF4 := hF3.below hb5; have hZ4 := hZ3.below hb5; have r0 := hF4.1.cell0; have r1 := hF4.1.cell1; have r2 := hF4.2.1.cell0; have r3 := hF4.2.1.cell1; have r4 := hF4.2.1.frozen0; have r5 := hF4.2.1.frozen1))
  have hD := ((hF4.2.1.set0 (.int .i64 ((m : Int) - 1))).set1 (.slice A (m * m) c1))
  exact post_cell (rb := w.heap.size + 1) Tryz.results11 rfl rfl hD ⟨A, c1, rfl, ((hZ4.lower (by simp <;> omega)).setBox hF4.2.1 _).setBox (hF4.2.1.set0 _) _, (hF4.2.2.setCell (p := ⟨w.heap.size + 1, 0, none⟩) (by simp) _).setCell (p := ⟨w.heap.size + 1, 1, none⟩) (by simp) _⟩

set_option maxRecDepth 100000 in
set_option maxHeartbeats 3200000 in
theorem copy_far {w : World} {N : Int} {Az : Option Addr} {lz cz m : Nat} {i j c : Int} {C : Mat} (h0 : 0 < m) (h7 : m ≤ 7) (k1 : namedB ((m : Int) - 1) i = true) (k2 : namedB ((m : Int) - 1) j = true) (hc : c < -2305843009213693952 ∨ 2305843009213693952 < c)
    (K : ∀ W, Below w.heap.size w W → Calls Tryz.prog 34 #[zoneV N Az lz cz] W (RetC W m (some C))) :
    Calls Tryz.prog 11 #[zoneV N Az lz cz, .int .i64 i, .int .i64 j, .int .i64 c] w (RetC w m none) := by
  have HT := Lib.hid (two_boxes w 32 (.int .i64 N) (.slice Az lz cz) (.int .i64 0) (.slice none 0 0))
  have HL := Lib.hid HT.out.2.2
  have HK := Lib.hid K
  clear K
  have e1 : rlen m (some C) = m * m := rfl
  have e2 := sq_pos h0
  have HBt : Hid (∀ W, Calls Tryz.prog 30 #[.int .i64 ((m : Int) - 1)] W (RetBot ((m : Int) - 1) W)) := Lib.hid fun W => by
    have h := bottom_any ((m : Int) - 1) W
    unfold botN at h
    rw [if_pos ((mayB_iff _).2 (by omega))] at h
    exact h
  rcases hc with hc | hc
  · have d5 : decide (c < -2305843009213693952) = true := decide_eq_true hc
    clear hc
    go_enter Tryz.func11, Tryz.ntmps11
    go_wp2_with (first
      | (go_at_call 34; ((with_reducible refine (HK.out _ HL.out).mono ?_); rintro e w1 ⟨A, c1, rfl, hz1, hb1⟩); have hF1 : Gd w w1 _ _ _ _ := Gd.below HT.out hb1; have y0 := hF1.1.cell0; have y1 := hF1.1.cell1; have y4 := hF1.1.frozen0; have y5 := hF1.1.frozen1)
      | (go_at_call 35; ((with_reducible refine (none_any _ _ _ _ _).mono ?_); rintro e w3 ⟨rfl, hb3⟩); have hF2 := (hF1.put (.int .i64 ((m : Int) - 1)) (.slice A (m * m) c1)).below hb3; have hZ2 := ((hz1.setCell (a := ⟨w.heap.size, 0, none⟩) (by simp <;> omega) (.int .i64 ((m : Int) - 1))).setCell (a := ⟨w.heap.size, 1, none⟩) (by simp <;> omega) (.slice A (m * m) c1)).below hb3; have p0 := hF2.1.cell0; have p1 := hF2.1.cell1; have p2 := hF2.2.1.cell0; have p3 := hF2.2.1.cell1; have p4 := hF2.2.1.frozen0; have p5 := hF2.2.1.frozen1)
      | (go_at_call 36; ((with_reducible refine (named_any _ _ _ _ _ _).mono ?_); rintro e w4 ⟨rfl, hb4⟩); have hF3 := hF2.below hb4; have hZ3 := hZ2.below hb4; have q0 := hF3.1.cell0; have q1 := hF3.1.cell1; have q2 := hF3.2.1.cell0; have q3 := hF3.2.1.cell1; have q4 := hF3.2.1.frozen0; have q5 := hF3.2.1.frozen1)
      | (go_at_call 36; ((with_reducible refine (named_any _ _ _ _ _ _).mono ?_); rintro e w5 ⟨rfl, hb5⟩); have hF4 := hF3.below hb5; have hZ4 := hZ3.below hb5; have r0 := hF4.1.cell0; have r1 := hF4.1.cell1; have r2 := hF4.2.1.cell0; have r3 := hF4.2.1.cell1; have r4 := hF4.2.1.frozen0; have r5 := hF4.2.1.frozen1)
      | (go_at_call 30; ((with_reducible refine (HBt.out _).mono ?_); rintro e w6 ⟨rfl, hb6⟩); have hF5 := hF4.below hb6; have d0 := hF5.2.1.cell0; have d1 := hF5.2.1.cell1; have d2 := hF5.2.1.frozen0; have d3 := hF5.2.1.frozen1))
    have hD := ((hF5.2.1.set0 (.int .i64 ((m : Int) - 1))).set1 (.slice none 0 0))
    exact post_cell (rb := w.heap.size + 1) Tryz.results11 rfl rfl hD ⟨none, 0, rfl, rfl, (hF5.2.2.setCell (p := ⟨w.heap.size + 1, 0, none⟩) (by simp) _).setCell (p := ⟨w.heap.size + 1, 1, none⟩) (by simp) _⟩
  · have d5 : decide (c < -2305843009213693952) = false := decide_eq_false (by omega)
    have d6 : decide (2305843009213693952 < c) = true := decide_eq_true hc
    clear hc
    go_enter Tryz.func11, Tryz.ntmps11
    go_wp2_with (first
      | (go_at_call 34; ((with_reducible refine (HK.out _ HL.out).mono ?_); rintro e w1 ⟨A, c1, rfl, hz1, hb1⟩); have hF1 : Gd w w1 _ _ _ _ := Gd.below HT.out hb1; have y0 := hF1.1.cell0; have y1 := hF1.1.cell1; have y4 := hF1.1.frozen0; have y5 := hF1.1.frozen1)
      | (go_at_call 35; ((with_reducible refine (none_any _ _ _ _ _).mono ?_); rintro e w3 ⟨rfl, hb3⟩); have hF2 := (hF1.put (.int .i64 ((m : Int) - 1)) (.slice A (m * m) c1)).below hb3; have hZ2 := ((hz1.setCell (a := ⟨w.heap.size, 0, none⟩) (by simp <;> omega) (.int .i64 ((m : Int) - 1))).setCell (a := ⟨w.heap.size, 1, none⟩) (by simp <;> omega) (.slice A (m * m) c1)).below hb3; have p0 := hF2.1.cell0; have p1 := hF2.1.cell1; have p2 := hF2.2.1.cell0; have p3 := hF2.2.1.cell1; have p4 := hF2.2.1.frozen0; have p5 := hF2.2.1.frozen1)
      | (go_at_call 36; ((with_reducible refine (named_any _ _ _ _ _ _).mono ?_); rintro e w4 ⟨rfl, hb4⟩); have hF3 := hF2.below hb4; have hZ3 := hZ2.below hb4; have q0 := hF3.1.cell0; have q1 := hF3.1.cell1; have q2 := hF3.2.1.cell0; have q3 := hF3.2.1.cell1; have q4 := hF3.2.1.frozen0; have q5 := hF3.2.1.frozen1)
      | (go_at_call 36; ((with_reducible refine (named_any _ _ _ _ _ _).mono ?_); rintro e w5 ⟨rfl, hb5⟩); have hF4 := hF3.below hb5; have hZ4 := hZ3.below hb5; have r0 := hF4.1.cell0; have r1 := hF4.1.cell1; have r2 := hF4.2.1.cell0; have r3 := hF4.2.1.cell1; have r4 := hF4.2.1.frozen0; have r5 := hF4.2.1.frozen1)
      | (go_at_call 30; ((with_reducible refine (HBt.out _).mono ?_); rintro e w6 ⟨rfl, hb6⟩); have hF5 := hF4.below hb6; have d0 := hF5.2.1.cell0; have d1 := hF5.2.1.cell1; have d2 := hF5.2.1.frozen0; have d3 := hF5.2.1.frozen1))
    have hD := ((hF5.2.1.set0 (.int .i64 ((m : Int) - 1))).set1 (.slice none 0 0))
    exact post_cell (rb := w.heap.size + 1) Tryz.results11 rfl rfl hD ⟨none, 0, rfl, rfl, (hF5.2.2.setCell (p := ⟨w.heap.size + 1, 0, none⟩) (by simp) _).setCell (p := ⟨w.heap.size + 1, 1, none⟩) (by simp) _⟩

set_option maxRecDepth 100000 in
set_option maxHeartbeats 3200000 in
theorem copy_same {w : World} {N : Int} {Az : Option Addr} {lz cz m : Nat} {i j c : Int} {C : Mat} (h0 : 0 < m) (h7 : m ≤ 7) (k1 : namedB ((m : Int) - 1) i = true) (k2 : namedB ((m : Int) - 1) j = true) (hc : -2305843009213693952 ≤ c ∧ c ≤ 2305843009213693952) (hij : i = j)
    (K : ∀ W, Below w.heap.size w W → Calls Tryz.prog 34 #[zoneV N Az lz cz] W (RetC W m (some C))) :
    Calls Tryz.prog 11 #[zoneV N Az lz cz, .int .i64 i, .int .i64 j, .int .i64 c] w (RetC w m (setR m (shf C i.toNat c))) := by
  obtain ⟨i0, rfl, hi1, him⟩ := named_nat k1
  subst hij
  rw [Int.toNat_natCast]
  have HT := Lib.hid (two_boxes w 32 (.int .i64 N) (.slice Az lz cz) (.int .i64 0) (.slice none 0 0))
  have HL := Lib.hid HT.out.2.2
  have HK := Lib.hid K
  clear K
  have e1 : rlen m (some C) = m * m := rfl
  have e2 := sq_pos h0
  have HCc := Lib.hid hc
  have d5 : decide (c < -2305843009213693952) = false := decide_eq_false (by omega)
  have d6 : decide (2305843009213693952 < c) = false := decide_eq_false (by omega)
  clear hc
  have H0 := Lib.hid h0
  have H7 := Lib.hid h7
  clear hi1 him
  go_enter Tryz.func11, Tryz.ntmps11
  go_wp2_with (first
    | (go_at_call 34; ((with_reducible refine (HK.out _ HL.out).mono ?_); rintro e w1 ⟨A, c1, rfl, hz1, hb1⟩); have hF1 : Gd w w1 _ _ _ _ := Gd.below HT.out hb1; have y0 := hF1.1.cell0; have y1 := hF1.1.cell1; have y4 := hF1.1.frozen0; have y5 := hF1.1.frozen1)
    | (go_at_call 35; ((with_reducible refine (none_any _ _ _ _ _).mono ?_); rintro e w3 ⟨rfl, hb3⟩); have hF2 := (hF1.put (.int .i64 ((m : Int) - 1)) (.slice A (m * m) c1)).below hb3; have hZ2 := ((hz1.setCell (a := ⟨w.heap.size, 0, none⟩) (by simp <;> omega) (.int .i64 ((m : Int) - 1))).setCell (a := ⟨w.heap.size, 1, none⟩) (by simp <;> omega) (.slice A (m * m) c1)).below hb3; have p0 := hF2.1.cell0; have p1 := hF2.1.cell1; have p2 := hF2.2.1.cell0; have p3 := hF2.2.1.cell1; have p4 := hF2.2.1.frozen0; have p5 := hF2.2.1.frozen1)
    | (go_at_call 36; ((with_reducible refine (named_any _ _ _ _ _ _).mono ?_); rintro e w4 ⟨rfl, hb4⟩); have hF3 := hF2.below hb4; have hZ3 := hZ2.below hb4; have q0 := hF3.1.cell0; have q1 := hF3.1.cell1; have q2 := hF3.2.1.cell0; have q3 := hF3.2.1.cell1; have q4 := hF3.2.1.frozen0; have q5 := hF3.2.1.frozen1)
    | (go_at_call 36; ((with_reducible refine (named_any _ _ _ _ _ _).mono ?_); rintro e w5 ⟨rfl, hb5⟩); have hF4 := hF3.below hb5; have hZ4 := hZ3.below hb5; have r0 := hF4.1.cell0; have r1 := hF4.1.cell1; have r2 := hF4.2.1.cell0; have r3 := hF4.2.1.cell1; have r4 := hF4.2.1.frozen0; have r5 := hF4.2.1.frozen1)
    | (go_at_call 44; ((with_reducible refine (shift_any H0.out H7.out HCc.out hZ4).mono ?_); rintro e w6 ⟨A6, c6, rfl, hz6, hb6⟩); have hF5 := hF4.below hb6; have d0 := hF5.2.1.cell0; have d1 := hF5.2.1.cell1; have d2 := hF5.2.1.frozen0; have d3 := hF5.2.1.frozen1))
  have hs1 := hF4.2.1.lt
  have hsz := hF4.2.2.size
  have hD := ((hF5.2.1.set0 (.int .i64 ((m : Int) - 1))).set1 (.slice A6 (rlen m (setR m (shf C i0 c))) c6))
  exact post_cell (rb := w.heap.size + 1) Tryz.results11 rfl rfl hD ⟨A6, c6, rfl, ((hz6.setBox hF5.2.1 _).setBox (hF5.2.1.set0 _) _).lower (by omega), (hF5.2.2.setCell (p := ⟨w.heap.size + 1, 0, none⟩) (by simp) _).setCell (p := ⟨w.heap.size + 1, 1, none⟩) (by simp) _⟩

/-- Forget, of a right zone with a point. -/
theorem forget_back {w : World} {A : Option Addr} {c m base i : Nat} {C : Mat} (h0 : 0 < m) (h7 : m ≤ 7) (hi : 1 ≤ i) (him : i < m) (hz : ZRes w base m (some C) (zoneV ((m : Int) - 1) A (m * m) c)) :
    Calls Tryz.prog 8 #[zoneV ((m : Int) - 1) A (m * m) c, .int .i64 (i : Int)] w (RetC w m (some (lev (fgt C i) m))) := by
  have h := forget_in (i := (i : Int)) (C := C) h0 h7 (by simp [namedB]; omega) (fun W hb => close_back h0 h7 (hz.below hb))
  rw [Int.toNat_natCast, setR_yes (fgt_alive hz.1 h0 i)] at h
  exact h

set_option maxRecDepth 100000 in
set_option maxHeartbeats 3200000 in
theorem copy_in {w : World} {N : Int} {Az : Option Addr} {lz cz m : Nat} {i j c : Int} {C : Mat} (h0 : 0 < m) (h7 : m ≤ 7) (k1 : namedB ((m : Int) - 1) i = true) (k2 : namedB ((m : Int) - 1) j = true) (hc : -2305843009213693952 ≤ c ∧ c ≤ 2305843009213693952) (hij : i ≠ j)
    (K : ∀ W, Below w.heap.size w W → Calls Tryz.prog 34 #[zoneV N Az lz cz] W (RetC W m (some C))) :
    Calls Tryz.prog 11 #[zoneV N Az lz cz, .int .i64 i, .int .i64 j, .int .i64 c] w (RetC w m (setR m (cpyM m C i.toNat j.toNat c))) := by
  obtain ⟨i0, rfl, hi1, him⟩ := named_nat k1
  obtain ⟨j0, rfl, hj1, hjm⟩ := named_nat k2
  rw [Int.toNat_natCast, Int.toNat_natCast]
  have b1 : ((i0 : Int) == (j0 : Int)) = false := by simpa using hij
  have HT := Lib.hid (two_boxes w 32 (.int .i64 N) (.slice Az lz cz) (.int .i64 0) (.slice none 0 0))
  have HL := Lib.hid HT.out.2.2
  have HK := Lib.hid K
  clear K
  have e1 : rlen m (some C) = m * m := rfl
  have e2 := sq_pos h0
  have HCc := Lib.hid hc
  have d5 : decide (c < -2305843009213693952) = false := decide_eq_false (by omega)
  have d6 : decide (2305843009213693952 < c) = false := decide_eq_false (by omega)
  clear hc
  have H0 := Lib.hid h0
  have H7 := Lib.hid h7
  have HI := Lib.hid (And.intro hi1 (And.intro him (And.intro hj1 hjm)))
  have hwc : IntKind.i64.wrap (-c) = -c := IntWalk.i64_in _ (by have := HCc.out; omega)
  clear hi1 him hj1 hjm hij
  go_enter Tryz.func11, Tryz.ntmps11
  go_wp2_with (first
    | (go_at_call 34; ((with_reducible refine (HK.out _ HL.out).mono ?_); rintro e w1 ⟨A, c1, rfl, hz1, hb1⟩); have hF1 : Gd w w1 _ _ _ _ := Gd.below HT.out hb1; have y0 := hF1.1.cell0; have y1 := hF1.1.cell1; have y4 := hF1.1.frozen0; have y5 := hF1.1.frozen1)
    | (go_at_call 35; ((with_reducible refine (none_any _ _ _ _ _).mono ?_); rintro e w3 ⟨rfl, hb3⟩); have hF2 := (hF1.put (.int .i64 ((m : Int) - 1)) (.slice A (m * m) c1)).below hb3; have hZ2 := ((hz1.setCell (a := ⟨w.heap.size, 0, none⟩) (by simp <;> omega) (.int .i64 ((m : Int) - 1))).setCell (a := ⟨w.heap.size, 1, none⟩) (by simp <;> omega) (.slice A (m * m) c1)).below hb3; have p0 := hF2.1.cell0; have p1 := hF2.1.cell1; have p2 := hF2.2.1.cell0; have p3 := hF2.2.1.cell1; have p4 := hF2.2.1.frozen0; have p5 := hF2.2.1.frozen1)
    | (go_at_call 36; ((with_reducible refine (named_any _ _ _ _ _ _).mono ?_); rintro e w4 ⟨rfl, hb4⟩); have hF3 := hF2.below hb4; have hZ3 := hZ2.below hb4; have q0 := hF3.1.cell0; have q1 := hF3.1.cell1; have q2 := hF3.2.1.cell0; have q3 := hF3.2.1.cell1; have q4 := hF3.2.1.frozen0; have q5 := hF3.2.1.frozen1)
    | (go_at_call 36; ((with_reducible refine (named_any _ _ _ _ _ _).mono ?_); rintro e w5 ⟨rfl, hb5⟩); have hF4 := hF3.below hb5; have hZ4 := hZ3.below hb5; have r0 := hF4.1.cell0; have r1 := hF4.1.cell1; have r2 := hF4.2.1.cell0; have r3 := hF4.2.1.cell1; have r4 := hF4.2.1.frozen0; have r5 := hF4.2.1.frozen1)
    | (go_at_call 8; ((with_reducible refine (forget_back H0.out H7.out HI.out.1 HI.out.2.1 hZ4).mono ?_); rintro e w6 ⟨A6, c6, rfl, hz6, hb6⟩); have hF5 := hF4.below hb6; have d0 := hF5.1.cell0; have d1 := hF5.1.cell1; have d2 := hF5.1.frozen0; have d3 := hF5.1.frozen1))
  have hs1 := hF4.2.1.lt
  have hG6 := hF5.put (.int .i64 ((m : Int) - 1)) (.slice A6 (rlen m (some (lev (fgt C i0) m))) c6)
  have hz6' := (hz6.setBox hF5.1 (o := 0) (.int .i64 ((m : Int) - 1))).setBox (hF5.1.set0 _) (o := 1) (.slice A6 (rlen m (some (lev (fgt C i0) m))) c6)
  obtain ⟨g6, rfl, hF, o6⟩ := zres_some hz6'
  have HG6 := Lib.hid hG6
  have HF := Lib.hid hF
  have o6l := own_lower o6 hF4.2.2.size
  have hgl := (o6l.lt g6 rfl).1
  have hgx := (o6.lt g6 rfl).1
  have hne : g6 ≠ w.heap.size + 1 := by omega
  have hne2 : g6 ≠ w.heap.size := by omega
  have hHi := HI.out
  obtain ⟨F, hFe⟩ : ∃ F, lev (fgt C i0) m = F := ⟨_, rfl⟩
  have HM : Hid (cpyM m C i0 j0 c = grd (grd F i0 j0 c) j0 i0 (-c)) := Lib.hid (by rw [← hFe]; rfl)
  rw [hFe] at o6l HF HG6
  clear hFe
  have e3 : rlen m (some F) = m * m := rfl
  have hX := HF.out.bd hHi.2.1 hHi.2.2.2
  have hY := HF.out.bd hHi.2.2.2 hHi.2.1
  clear p0 p1 p2 p3 p4 p5 q0 q1 q2 q3 q4 q5 r0 r1 r2 r3 r4 r5 y0 y1 y4 y5 d0 d1 d2 d3 hF1 hF2 hF3 hF4 hF5 hZ2 hZ3 hZ4 hb1 hb3 hb4 hb5 hb6 hz1 hz6 hz6' o6 hF hG6
  refine (lower_any m i0 j0 h7 hHi.2.1 hHi.2.2.2 g6 c6 _ (flatL m F) (F i0 j0) c _ o6l (flat_at F hHi.2.1 hHi.2.2.2)).mono ?_
  rintro e w7 ⟨⟨v7, rfl⟩, ho7, hg7⟩
  rw [flat_set F hHi.2.2.2] at ho7
  have HF7 := Lib.hid (show Gd w w7 (.int .i64 ((m : Int) - 1)) (.slice (some ⟨g6, 0, none⟩) (m * m) c6) (.int .i64 0) (.slice none 0 0) from ⟨HG6.out.1.kept hg7 (by simp; omega), HG6.out.2.1.kept hg7 (by simp; omega), HG6.out.2.2.grown hg7 HG6.out.2.2.size (fun r e => by cases e; omega)⟩)
  have HO7 := Lib.hid (show w7.ownsRow _ 3 1 _ _ ((flatL m (grd F i0 j0 c)).map (Value.int .i64)) from ho7)
  have s0 := HF7.out.1.cell0
  have s1 := HF7.out.1.cell1
  clear ho7 hg7 o6l
  go_wp2_with fail
  refine (lower_any m j0 i0 h7 hHi.2.2.2 hHi.2.1 g6 c6 _ (flatL m (grd F i0 j0 c)) (grd F i0 j0 c j0 i0) (-c) _ HO7.out (flat_at (grd F i0 j0 c) hHi.2.2.2 hHi.2.1)).mono ?_
  rintro e w8 ⟨⟨v8, rfl⟩, ho8, hg8⟩
  rw [flat_set (grd F i0 j0 c) hHi.2.1] at ho8
  have HF8 := Lib.hid (show Gd w w8 (.int .i64 ((m : Int) - 1)) (.slice (some ⟨g6, 0, none⟩) (m * m) c6) (.int .i64 0) (.slice none 0 0) from ⟨HF7.out.1.kept hg8 (by simp; omega), HF7.out.2.1.kept hg8 (by simp; omega), HF7.out.2.2.grown hg8 HF7.out.2.2.size (fun r e => by cases e; omega)⟩)
  have HO8 := Lib.hid (show w8.ownsRow _ 3 1 _ _ ((flatL m (grd (grd F i0 j0 c) j0 i0 (-c))).map (Value.int .i64)) from ho8)
  have t0 := HF8.out.1.cell0
  have t1 := HF8.out.1.cell1
  clear ho8 hg8 s0 s1
  go_wp2_with fail
  refine (settle_any m h7 h0 (grd (grd F i0 j0 c) j0 i0 (-c)) g6 c6 _ w8 (fun a b ha hb => by
    have h1 := HF.out.bd ha hb
    have h3 := HCc.out
    have h4 : grd F i0 j0 c a b = F a b ∨ grd F i0 j0 c a b = min (F i0 j0) c := by unfold grd upd; split <;> omega
    have h5 : grd F i0 j0 c j0 i0 = F j0 i0 ∨ grd F i0 j0 c j0 i0 = min (F i0 j0) c := by unfold grd upd; split <;> omega
    have h6 : grd (grd F i0 j0 c) j0 i0 (-c) a b = grd F i0 j0 c a b ∨ grd (grd F i0 j0 c) j0 i0 (-c) a b = min (grd F i0 j0 c j0 i0) (-c) := by
      show upd (grd F i0 j0 c) j0 i0 _ a b = _ ∨ upd (grd F i0 j0 c) j0 i0 _ a b = _
      unfold upd
      split
      · exact .inr rfl
      · exact .inl rfl
    omega) HO8.out).mono ?_
  rintro e w9 (⟨ha, rfl, ho9, hg9⟩ | ⟨hna, rfl, hg9⟩)
  · have hD3 := HF8.out.2.1.kept hg9 (by simp; omega)
    have hB3 := HF8.out.2.2.grown hg9 HF8.out.2.2.size (fun r e => by cases e; omega)
    have d0 := hD3.cell0
    have d1 := hD3.cell1
    have f0 := hD3.frozen0
    have f1 := hD3.frozen1
    have HO9 := Lib.hid ho9
    have HB3 := Lib.hid hB3
    clear ho9 hB3 hg9
    go_wp2_with fail
    refine post_cell (rb := w.heap.size + 1) Tryz.results11 rfl rfl ((hD3.set0 _).set1 _) ?_
    rw [HM.out, setR_yes ha]
    refine ⟨_, c6, rfl, ⟨lev_closed ha, g6, c6, rfl, ?_⟩, (HB3.out.setCell (p := ⟨w.heap.size + 1, 0, none⟩) (by simp) _).setCell (p := ⟨w.heap.size + 1, 1, none⟩) (by simp) _⟩
    exact own_lower ((HO9.out.kept (duo_grown_setCell _ _ _) (.inr (by simp [Value.ownBlock]; omega))).kept (duo_grown_setCell _ _ _) (.inr (by simp [Value.ownBlock]; omega))) (by simp <;> omega)
  · have hD3 := HF8.out.2.1.kept hg9 (by simp; omega)
    have hB3 := HF8.out.2.2.grown hg9 HF8.out.2.2.size (fun r e => by cases e; omega)
    have d0 := hD3.cell0
    have d1 := hD3.cell1
    have f0 := hD3.frozen0
    have f1 := hD3.frozen1
    have HB3 := Lib.hid hB3
    clear hB3 hg9
    go_wp2_with fail
    refine post_cell (rb := w.heap.size + 1) Tryz.results11 rfl rfl ((hD3.set0 _).set1 _) ?_
    rw [HM.out, setR_no hna]
    exact ⟨none, 0, rfl, rfl, (HB3.out.setCell (p := ⟨w.heap.size + 1, 0, none⟩) (by simp) _).setCell (p := ⟨w.heap.size + 1, 1, none⟩) (by simp) _⟩

theorem copy_any {w : World} {N : Int} {Az : Option Addr} {lz cz m : Nat} {R : Option Mat} {i j c : Int} (h0 : 0 < m) (h7 : m ≤ 7)
    (K : ∀ W, Below w.heap.size w W → Calls Tryz.prog 34 #[zoneV N Az lz cz] W (RetC W m R)) :
    Calls Tryz.prog 11 #[zoneV N Az lz cz, .int .i64 i, .int .i64 j, .int .i64 c] w (RetC w m (cpyO m R i j c)) := by
  cases R with
  | none => exact copy_none K
  | some C =>
    unfold cpyO
    cases k1 : namedB ((m : Int) - 1) i
    · exact copy_out1 h0 k1 K
    · cases k2 : namedB ((m : Int) - 1) j
      · exact copy_out2 h0 k1 k2 K
      · by_cases hc : c < -2305843009213693952 ∨ 2305843009213693952 < c
        · show Calls _ _ _ _ (RetC w m (if c < -2305843009213693952 ∨ 2305843009213693952 < c then none else _))
          rw [if_pos hc]
          exact copy_far h0 h7 k1 k2 hc K
        · show Calls _ _ _ _ (RetC w m (if c < -2305843009213693952 ∨ 2305843009213693952 < c then none else if i = j then setR m (shf C i.toNat c) else setR m (cpyM m C i.toNat j.toNat c)))
          rw [if_neg hc]
          by_cases hij : i = j
          · rw [if_pos hij]
            exact copy_same h0 h7 k1 k2 (by omega) hij K
          · rw [if_neg hij]
            exact copy_in h0 h7 k1 k2 (by omega) hij K
end Go.Proofs.YtlddelnbjihhgaaGreatDoor
