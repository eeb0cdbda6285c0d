/- The contract of Guard: any zone, any two variables. -/
import Derived.Test.YtlddelnbjihhgaaGreatDoorKnown
namespace Go.Proofs.YtlddelnbjihhgaaGreatDoor
open Go.RowKit
attribute [local go_sem ↓] Go.wp_at_zero Go.wp_at_succ

/-- The box of the zone that was closed, and the result's. -/
def Gd (w W : World) (a a' b b' : Value) : Prop := Duo W w.heap.size 32 a a' ∧ Duo W (w.heap.size + 1) 32 b b' ∧ Below w.heap.size w W
theorem Gd.below {w W W1 : World} {a a' b b' : Value} (h : Gd w W a a' b b') (hb : Below W.heap.size W W1) : Gd w W1 a a' b b' := ⟨h.1.below hb, h.2.1.below hb, h.2.2.trans (hb.mono h.2.2.size)⟩
theorem Gd.put {w W : World} {a a' b b' : Value} (h : Gd w W a a' b b') (x x' : Value) : Gd w ((W.setCell ⟨w.heap.size, 0, none⟩ x).setCell ⟨w.heap.size, 1, none⟩ x') x x' b b' :=
  ⟨(h.1.set0 x).set1 x', (h.2.1.other (by simp) _).other (by simp) _, (h.2.2.setCell (p := ⟨w.heap.size, 0, none⟩) (by simp) _).setCell (p := ⟨w.heap.size, 1, none⟩) (by simp) _⟩
theorem Gd.drew {w W : World} {a a' b b' : Value} (h : Gd w W a a' b b') : Gd w W.drew a a' b b' := ⟨h.1, h.2.1, h.2.2.drew⟩
/-- A bound that is lowered. -/
def grd (C : Mat) (i j : Nat) (c : Int) : Mat := upd C i j (min (C i j) c)
def grdO (m : Nat) (R : Option Mat) (i j c : Int) : Option Mat :=
  match R with
  | none => none
  | some C => if (knownB ((m : Int) - 1) i && knownB ((m : Int) - 1) j) = true then setR m (grd C i.toNat j.toNat c) else some C

set_option maxRecDepth 100000 in
set_option maxHeartbeats 1600000 in
theorem guard_none {w : World} {N : Int} {Az : Option Addr} {lz cz m : Nat} {i j c : Int} 
    (K : ∀ W, Below w.heap.size w W → Calls Tryz.prog 34 #[zoneV N Az lz cz] W (RetC W m none)) :
    Calls Tryz.prog 12 #[zoneV N Az lz cz, .int .i64 i, .int .i64 j, .int .i64 c] w (RetC w m none) := by
  have HT := Lib.hid (two_boxes w 32 (.int .i64 N) (.slice Az lz cz) (.int .i64 0) (.slice none 0 0))
  have HK := Lib.hid K
  clear K
  have e0 : rlen m (none : Option Mat) = 0 := rfl
  go_enter Tryz.func12, Tryz.ntmps12
  go_wp2_with (first
    | (go_at_call 34; ((with_reducible refine (HK.out _ HT.out.2.2).mono ?_); rintro e w1 ⟨A, c1, rfl, hz1, hb1⟩); have hF1 : Gd w w1 _ _ _ _ := Gd.below HT.out hb1; have hy1 := hz1.below (Below.refl _ _); have y0 := hF1.1.cell0; have y1 := hF1.1.cell1; have y4 := hF1.1.frozen0; have y5 := hF1.1.frozen1)
    | (go_at_call 35; ((with_reducible refine (none_any _ _ _ _ _).mono ?_); rintro e w3 ⟨rfl, hb3⟩); have hF2 := (hF1.put (.int .i64 ((m : Int) - 1)) (.slice A 0 c1)).below hb3; have hZ2 := ((hz1.setCell (a := ⟨w.heap.size, 0, none⟩) (by simp; omega) (.int .i64 ((m : Int) - 1))).setCell (a := ⟨w.heap.size, 1, none⟩) (by simp; omega) (.slice A 0 c1)).below hb3; have p0 := hF2.1.cell0; have p1 := hF2.1.cell1; have p2 := hF2.2.1.cell0; have p3 := hF2.2.1.cell1; have p4 := hF2.2.1.frozen0; have p5 := hF2.2.1.frozen1))
  have hD := ((hF2.2.1.set0 (.int .i64 ((m : Int) - 1))).set1 (.slice A 0 c1))
  exact post_cell (rb := w.heap.size + 1) Tryz.results12 rfl rfl hD ⟨A, c1, rfl, ((hZ2.lower (by simp <;> omega)).setBox hF2.2.1 _).setBox (hF2.2.1.set0 _) _, (hF2.2.2.setCell (p := ⟨w.heap.size + 1, 0, none⟩) (by simp) _).setCell (p := ⟨w.heap.size + 1, 1, none⟩) (by simp) _⟩

set_option maxRecDepth 100000 in
set_option maxHeartbeats 1600000 in
theorem guard_out1 {w : World} {N : Int} {Az : Option Addr} {lz cz m : Nat} {i j c : Int} {C : Mat} (h0 : 0 < m) (k1 : knownB ((m : Int) - 1) i = false)
    (K : ∀ W, Below w.heap.size w W → Calls Tryz.prog 34 #[zoneV N Az lz cz] W (RetC W m (some C))) :
    Calls Tryz.prog 12 #[zoneV N Az lz cz, .int .i64 i, .int .i64 j, .int .i64 c] w (RetC w m (some C)) := by
  have HT := Lib.hid (two_boxes w 32 (.int .i64 N) (.slice Az lz cz) (.int .i64 0) (.slice none 0 0))
  have HK := Lib.hid K
  clear K
  have e1 : rlen m (some C) = m * m := rfl
  have e2 := sq_pos h0
  go_enter Tryz.func12, Tryz.ntmps12
  go_wp2_with (first
    | (go_at_call 34; ((with_reducible refine (HK.out _ HT.out.2.2).mono ?_); rintro e w1 ⟨A, c1, rfl, hz1, hb1⟩); have hF1 : Gd w w1 _ _ _ _ := Gd.below HT.out hb1; have hy1 := hz1.below (Below.refl _ _); have y0 := hF1.1.cell0; have y1 := hF1.1.cell1; have y4 := hF1.1.frozen0; have y5 := hF1.1.frozen1)
    | (go_at_call 35; ((with_reducible refine (none_any _ _ _ _ _).mono ?_); rintro e w3 ⟨rfl, hb3⟩); have hF2 := (hF1.put (.int .i64 ((m : Int) - 1)) (.slice A (m * m) c1)).below hb3; have hZ2 := ((hz1.setCell (a := ⟨w.heap.size, 0, none⟩) (by simp; omega) (.int .i64 ((m : Int) - 1))).setCell (a := ⟨w.heap.size, 1, none⟩) (by simp; omega) (.slice A (m * m) c1)).below hb3; have p0 := hF2.1.cell0; have p1 := hF2.1.cell1; have p2 := hF2.2.1.cell0; have p3 := hF2.2.1.cell1; have p4 := hF2.2.1.frozen0; have p5 := hF2.2.1.frozen1)
    | (go_at_call 45; ((with_reducible refine (known_any _ _ _ _ _ _).mono ?_); rintro e w4 ⟨rfl, hb4⟩); have hF3 := hF2.below hb4; have hZ3 := hZ2.below hb4; have q0 := hF3.1.cell0; have q1 := hF3.1.cell1; have q2 := hF3.2.1.cell0; have q3 := hF3.2.1.cell1; have q4 := hF3.2.1.frozen0; have q5 := hF3.2.1.frozen1))
  have hD := ((hF3.2.1.set0 (.int .i64 ((m : Int) - 1))).set1 (.slice A (m * m) c1))
  exact post_cell (rb := w.heap.size + 1) Tryz.results12 rfl rfl hD ⟨A, c1, rfl, ((hZ3.lower (by simp <;> omega)).setBox hF3.2.1 _).setBox (hF3.2.1.set0 _) _, (hF3.2.2.setCell (p := ⟨w.heap.size + 1, 0, none⟩) (by simp) _).setCell (p := ⟨w.heap.size + 1, 1, none⟩) (by simp) _⟩

set_option maxRecDepth 100000 in
set_option maxHeartbeats 1600000 in
theorem guard_out2 {w : World} {N : Int} {Az : Option Addr} {lz cz m : Nat} {i j c : Int} {C : Mat} (h0 : 0 < m) (k1 : knownB ((m : Int) - 1) i = true) (k2 : knownB ((m : Int) - 1) j = false)
    (K : ∀ W, Below w.heap.size w W → Calls Tryz.prog 34 #[zoneV N Az lz cz] W (RetC W m (some C))) :
    Calls Tryz.prog 12 #[zoneV N Az lz cz, .int .i64 i, .int .i64 j, .int .i64 c] w (RetC w m (some C)) := by
  have HT := Lib.hid (two_boxes w 32 (.int .i64 N) (.slice Az lz cz) (.int .i64 0) (.slice none 0 0))
  have HK := Lib.hid K
  clear K
  have e1 : rlen m (some C) = m * m := rfl
  have e2 := sq_pos h0
  go_enter Tryz.func12, Tryz.ntmps12
  go_wp2_with (first
    | (go_at_call 34; ((with_reducible refine (HK.out _ HT.out.2.2).mono ?_); rintro e w1 ⟨A, c1, rfl, hz1, hb1⟩); have hF1 : Gd w w1 _ _ _ _ := Gd.below HT.out hb1; have hy1 := hz1.below (Below.refl _ _); have y0 := hF1.1.cell0; have y1 := hF1.1.cell1; have y4 := hF1.1.frozen0; have y5 := hF1.1.frozen1)
    | (go_at_call 35; ((with_reducible refine (none_any _ _ _ _ _).mono ?_); rintro e w3 ⟨rfl, hb3⟩); have hF2 := (hF1.put (.int .i64 ((m : Int) - 1)) (.slice A (m * m) c1)).below hb3; have hZ2 := ((hz1.setCell (a := ⟨w.heap.size, 0, none⟩) (by simp; omega) (.int .i64 ((m : Int) - 1))).setCell (a := ⟨w.heap.size, 1, none⟩) (by simp; omega) (.slice A (m * m) c1)).below hb3; have p0 := hF2.1.cell0; have p1 := hF2.1.cell1; have p2 := hF2.2.1.cell0; have p3 := hF2.2.1.cell1; have p4 := hF2.2.1.frozen0; have p5 := hF2.2.1.frozen1)
    | (go_at_call 45; ((with_reducible refine (known_any _ _ _ _ _ _).mono ?_); rintro e w4 ⟨rfl, hb4⟩); have hF3 := hF2.below hb4; have hZ3 := hZ2.below hb4; have q0 := hF3.1.cell0; have q1 := hF3.1.cell1; have q2 := hF3.2.1.cell0; have q3 := hF3.2.1.cell1; have q4 := hF3.2.1.frozen0; have q5 := hF3.2.1.frozen1)
    | (go_at_call 45; ((with_reducible refine (known_any _ _ _ _ _ _).mono ?_); rintro e w5 ⟨rfl, hb5⟩); have hF4 := hF3.below hb5; have hZ4 := hZ3.below hb5; have r0 := hF4.1.cell0; have r1 := hF4.1.cell1; have r2 := hF4.2.1.cell0; have r3 := hF4.2.1.cell1; have r4 := hF4.2.1.frozen0; have r5 := hF4.2.1.frozen1))
  have hD := ((hF4.2.1.set0 (.int .i64 ((m : Int) - 1))).set1 (.slice A (m * m) c1))
  exact post_cell (rb := w.heap.size + 1) Tryz.results12 rfl rfl hD ⟨A, c1, rfl, ((hZ4.lower (by simp <;> omega)).setBox hF4.2.1 _).setBox (hF4.2.1.set0 _) _, (hF4.2.2.setCell (p := ⟨w.heap.size + 1, 0, none⟩) (by simp) _).setCell (p := ⟨w.heap.size + 1, 1, none⟩) (by simp) _⟩

set_option maxRecDepth 100000 in
set_option maxHeartbeats 1600000 in
theorem guard_in {w : World} {N : Int} {Az : Option Addr} {lz cz m : Nat} {i j c : Int} {C : Mat} (h0 : 0 < m) (h7 : m ≤ 7) (k1 : knownB ((m : Int) - 1) i = true) (k2 : knownB ((m : Int) - 1) j = true) (hcc : -9223372036854775808 ≤ c ∧ c ≤ 9223372036854775807)
    (K : ∀ W, Below w.heap.size w W → Calls Tryz.prog 34 #[zoneV N Az lz cz] W (RetC W m (some C))) :
    Calls Tryz.prog 12 #[zoneV N Az lz cz, .int .i64 i, .int .i64 j, .int .i64 c] w (RetC w m (setR m (grd C i.toNat j.toNat c))) := by
  have HT := Lib.hid (two_boxes w 32 (.int .i64 N) (.slice Az lz cz) (.int .i64 0) (.slice none 0 0))
  have HK := Lib.hid K
  clear K
  have HCC := Lib.hid hcc
  clear hcc
  obtain ⟨i0, rfl⟩ : ∃ a : Nat, i = a := ⟨i.toNat, by simp [knownB] at k1; omega⟩
  obtain ⟨j0, rfl⟩ : ∃ a : Nat, j = a := ⟨j.toNat, by simp [knownB] at k2; omega⟩
  have hi : i0 < m := by simp [knownB] at k1; omega
  have hj : j0 < m := by simp [knownB] at k2; omega
  have hc := HCC.out
  have e3 : ((i0 : Int).toNat) = i0 := by simp
  have e4 : ((j0 : Int).toNat) = j0 := by simp
  rw [e3, e4]
  clear e3 e4
  have e1 : rlen m (some C) = m * m := rfl
  have e2 := sq_pos h0
  go_enter Tryz.func12, Tryz.ntmps12
  go_wp2_with (first
    | (go_at_call 34; ((with_reducible refine (HK.out _ HT.out.2.2).mono ?_); rintro e w1 ⟨A, c1, rfl, hz1, hb1⟩); have hF1 : Gd w w1 _ _ _ _ := Gd.below HT.out hb1; have hy1 := hz1.below (Below.refl _ _); have y0 := hF1.1.cell0; have y1 := hF1.1.cell1; have y4 := hF1.1.frozen0; have y5 := hF1.1.frozen1)
    | (go_at_call 35; ((with_reducible refine (none_any _ _ _ _ _).mono ?_); rintro e w3 ⟨rfl, hb3⟩); have hF2 := (hF1.put (.int .i64 ((m : Int) - 1)) (.slice A (m * m) c1)).below hb3; have hZ2 := ((hz1.setCell (a := ⟨w.heap.size, 0, none⟩) (by simp; omega) (.int .i64 ((m : Int) - 1))).setCell (a := ⟨w.heap.size, 1, none⟩) (by simp; omega) (.slice A (m * m) c1)).below hb3; have p0 := hF2.1.cell0; have p1 := hF2.1.cell1; have p2 := hF2.2.1.cell0; have p3 := hF2.2.1.cell1; have p4 := hF2.2.1.frozen0; have p5 := hF2.2.1.frozen1)
    | (go_at_call 45; ((with_reducible refine (known_any _ _ _ _ _ _).mono ?_); rintro e w4 ⟨rfl, hb4⟩); have hF3 := hF2.below hb4; have hZ3 := hZ2.below hb4; have q0 := hF3.1.cell0; have q1 := hF3.1.cell1; have q2 := hF3.2.1.cell0; have q3 := hF3.2.1.cell1; have q4 := hF3.2.1.frozen0; have q5 := hF3.2.1.frozen1)
    | (go_at_call 45; ((with_reducible refine (known_any _ _ _ _ _ _).mono ?_); rintro e w5 ⟨rfl, hb5⟩); have hF4 := hF3.below hb5; have hZ4 := hZ3.below hb5; have r0 := hF4.1.cell0; have r1 := hF4.1.cell1; have r2 := hF4.2.1.cell0; have r3 := hF4.2.1.cell1; have r4 := hF4.2.1.frozen0; have r5 := hF4.2.1.frozen1))
  obtain ⟨g, rfl, hC, o⟩ := zres_some hZ4
  have hgl := (o.lt g rfl).1
  simp at hgl
  have HC := Lib.hid hC
  have HF4 := Lib.hid hF4
  have hs4 := hF4.2.1.lt
  refine (lower_any m i0 j0 h7 hi hj g c1 _ (flatL m C) (C i0 j0) c w5 o (flat_at C hi hj)).mono ?_
  rintro e w6 ⟨⟨v, rfl⟩, ho6, hg6⟩
  rw [flat_set C hj] at ho6
  have hF6 : Gd w w6 (.int .i64 ((m : Int) - 1)) (.slice (some ⟨g, 0, none⟩) (m * m) c1) (.int .i64 0) (.slice none 0 0) := ⟨HF4.out.1.kept hg6 (by simp; omega), HF4.out.2.1.kept hg6 (by simp; omega), HF4.out.2.2.grown hg6 HF4.out.2.2.size (fun r e => by cases e; omega)⟩
  have HF6 := Lib.hid hF6
  have HO6 := Lib.hid ho6
  have s0 := hF6.1.cell0
  have s1 := hF6.1.cell1
  clear p0 p1 p2 p3 p4 p5 q0 q1 q2 q3 q4 q5 r0 r1 r2 r3 r4 r5 y0 y1 y4 y5 hF1 hF2 hF3 hF4 hZ2 hZ3 hZ4 hb1 hb3 hb4 hb5 hz1 hy1 o hC hF6 ho6 hg6
  go_wp2_with fail
  refine (settle_any m h7 h0 (grd C i0 j0 c) g c1 _ w6 (fun a b ha hb => by have h1 := HC.out.bd ha hb; have h2 := HC.out.bd hi hj; have h3 := HCC.out; unfold grd upd; split <;> omega) HO6.out).mono ?_
  rintro e w7 (⟨ha, rfl, ho7, hg7⟩ | ⟨hna, rfl, hg7⟩)
  · have hD3 := HF6.out.2.1.kept hg7 (by simp; omega)
    have hB3 := HF6.out.2.2.grown hg7 HF6.out.2.2.size (fun r e => by cases e; omega)
    have d0 := hD3.cell0
    have d1 := hD3.cell1
    have f0 := hD3.frozen0
    have f1 := hD3.frozen1
    have HO7 := Lib.hid ho7
    have HB3 := Lib.hid hB3
    clear ho7 hB3 hg7
    go_wp2_with fail
    refine post_cell (rb := w.heap.size + 1) Tryz.results12 rfl rfl ((hD3.set0 _).set1 _) ?_
    rw [setR_yes ha]
    refine ⟨_, c1, rfl, ⟨lev_closed ha, g, c1, rfl, ?_⟩, (HB3.out.setCell (p := ⟨w.heap.size + 1, 0, none⟩) (by simp) _).setCell (p := ⟨w.heap.size + 1, 1, none⟩) (by simp) _⟩
    exact own_lower ((HO7.out.kept (duo_grown_setCell _ _ _) (.inr (by simp [Value.ownBlock]; omega))).kept (duo_grown_setCell _ _ _) (.inr (by simp [Value.ownBlock]; omega))) (by simp <;> omega)
  · have hD3 := HF6.out.2.1.kept hg7 (by simp; omega)
    have hB3 := HF6.out.2.2.grown hg7 HF6.out.2.2.size (fun r e => by cases e; omega)
    have d0 := hD3.cell0
    have d1 := hD3.cell1
    have f0 := hD3.frozen0
    have f1 := hD3.frozen1
    have HB3 := Lib.hid hB3
    clear hB3 hg7
    go_wp2_with fail
    refine post_cell (rb := w.heap.size + 1) Tryz.results12 rfl rfl ((hD3.set0 _).set1 _) ?_
    rw [setR_no hna]
    exact ⟨none, 0, rfl, rfl, (HB3.out.setCell (p := ⟨w.heap.size + 1, 0, none⟩) (by simp) _).setCell (p := ⟨w.heap.size + 1, 1, none⟩) (by simp) _⟩

theorem guard_any {w : World} {N : Int} {Az : Option Addr} {lz cz m : Nat} {R : Option Mat} {i j c : Int} (h0 : 0 < m) (h7 : m ≤ 7) (hcc : -9223372036854775808 ≤ c ∧ c ≤ 9223372036854775807)
    (K : ∀ W, Below w.heap.size w W → Calls Tryz.prog 34 #[zoneV N Az lz cz] W (RetC W m R)) :
    Calls Tryz.prog 12 #[zoneV N Az lz cz, .int .i64 i, .int .i64 j, .int .i64 c] w (RetC w m (grdO m R i j c)) := by
  cases R with
  | none => exact guard_none K
  | some C =>
    unfold grdO
    cases k1 : knownB ((m : Int) - 1) i
    · exact guard_out1 h0 k1 K
    · cases k2 : knownB ((m : Int) - 1) j
      · exact guard_out2 h0 k1 k2 K
      · exact guard_in h0 h7 k1 k2 hcc K
end Go.Proofs.YtlddelnbjihhgaaGreatDoor
