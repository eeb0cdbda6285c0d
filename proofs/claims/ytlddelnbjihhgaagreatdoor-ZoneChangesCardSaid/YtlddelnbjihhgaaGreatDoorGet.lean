/- The contracts of Get and Span: any zone. -/
import Derived.Test.YtlddelnbjihhgaaGreatDoorGuard
import Derived.Test.YtlddelnbjihhgaaGreatDoorSpans
namespace Go.Proofs.YtlddelnbjihhgaaGreatDoor
open Go.RowKit
attribute [local go_sem ↓] Go.wp_at_zero Go.wp_at_succ

/-- The box of the zone that was closed. -/
def Gz (w W : World) (a a' : Value) : Prop := Duo W w.heap.size 32 a a' ∧ Below w.heap.size w W
theorem gz_new (w : World) (a a' : Value) : Gz w (w.alloc (.cells #[a, a'] 32)) a a' := ⟨Duo.new w _ _ _, zboxed _ _⟩
theorem Gz.below {w W W1 : World} {a a' : Value} (h : Gz w W a a') (hb : Below W.heap.size W W1) : Gz w W1 a a' := ⟨h.1.below hb, h.2.trans (hb.mono h.2.size)⟩
theorem Gz.put {w W : World} {a a' : Value} (h : Gz w W a a') (x x' : Value) : Gz w ((W.setCell ⟨w.heap.size, 0, none⟩ x).setCell ⟨w.heap.size, 1, none⟩ x') x x' :=
  ⟨(h.1.set0 x).set1 x', (h.2.setCell (p := ⟨w.heap.size, 0, none⟩) (by simp) _).setCell (p := ⟨w.heap.size, 1, none⟩) (by simp) _⟩
theorem Gz.drew {w W : World} {a a' : Value} (h : Gz w W a a') : Gz w W.drew a a' := ⟨h.1, h.2.drew⟩
def getO (m : Nat) (R : Option Mat) (i j : Int) : Int :=
  match R with
  | none => -2305843009213693952
  | some C => if (knownB ((m : Int) - 1) i && knownB ((m : Int) - 1) j) = true then C i.toNat j.toNat else -2305843009213693952
def RetI (w : World) (x : Int) (e : Ending) (w' : World) : Prop := e = .returned (.int .i64 x) ∧ Below w.heap.size w w'

set_option maxRecDepth 100000 in
set_option maxHeartbeats 1600000 in
theorem get_none {w : World} {N : Int} {Az : Option Addr} {lz cz m : Nat} {i j : Int} 
    (K : ∀ W, Below w.heap.size w W → Calls Tryz.prog 34 #[zoneV N Az lz cz] W (RetC W m none)) :
    Calls Tryz.prog 19 #[zoneV N Az lz cz, .int .i64 i, .int .i64 j] w (RetI w (-2305843009213693952)) := by
  have HT := Lib.hid (gz_new w (.int .i64 N) (.slice Az lz cz))
  have HB := Lib.hid HT.out.2
  have HK := Lib.hid K
  clear K
  have e0 : rlen m (none : Option Mat) = 0 := rfl
  go_enter Tryz.func19, Tryz.ntmps19
  go_wp2_with (first
    | (go_at_call 34; ((with_reducible refine (HK.out _ HB.out).mono ?_); rintro e w1 ⟨A, c1, rfl, hz1, hb1⟩); have hF1 : Gz w w1 _ _ := Gz.below HT.out hb1; have y0 := hF1.1.cell0; have y1 := hF1.1.cell1; have y4 := hF1.1.frozen0; have y5 := hF1.1.frozen1)
    | (go_at_call 35; ((with_reducible refine (none_any _ _ _ _ _).mono ?_); rintro e w3 ⟨rfl, hb3⟩); have hF2 := (hF1.put (.int .i64 ((m : Int) - 1)) (.slice A 0 c1)).below hb3; have hZ2 := ((hz1.setCell (a := ⟨w.heap.size, 0, none⟩) (by simp) (.int .i64 ((m : Int) - 1))).setCell (a := ⟨w.heap.size, 1, none⟩) (by simp) (.slice A 0 c1)).below hb3; have p0 := hF2.1.cell0; have p1 := hF2.1.cell1))
  go_ret
  exact ⟨rfl, hF2.2⟩

set_option maxRecDepth 100000 in
set_option maxHeartbeats 1600000 in
theorem get_out1 {w : World} {N : Int} {Az : Option Addr} {lz cz m : Nat} {i j : Int} {C : Mat} (h0 : 0 < m) (k1 : knownB ((m : Int) - 1) i = false)
    (K : ∀ W, Below w.heap.size w W → Calls Tryz.prog 34 #[zoneV N Az lz cz] W (RetC W m (some C))) :
    Calls Tryz.prog 19 #[zoneV N Az lz cz, .int .i64 i, .int .i64 j] w (RetI w (-2305843009213693952)) := by
  have HT := Lib.hid (gz_new w (.int .i64 N) (.slice Az lz cz))
  have HB := Lib.hid HT.out.2
  have HK := Lib.hid K
  clear K
  have e1 : rlen m (some C) = m * m := rfl
  have e2 := sq_pos h0
  go_enter Tryz.func19, Tryz.ntmps19
  go_wp2_with (first
    | (go_at_call 34; ((with_reducible refine (HK.out _ HB.out).mono ?_); rintro e w1 ⟨A, c1, rfl, hz1, hb1⟩); have hF1 : Gz w w1 _ _ := Gz.below HT.out hb1; have y0 := hF1.1.cell0; have y1 := hF1.1.cell1; have y4 := hF1.1.frozen0; have y5 := hF1.1.frozen1)
    | (go_at_call 35; ((with_reducible refine (none_any _ _ _ _ _).mono ?_); rintro e w3 ⟨rfl, hb3⟩); have hF2 := (hF1.put (.int .i64 ((m : Int) - 1)) (.slice A (m * m) c1)).below hb3; have hZ2 := ((hz1.setCell (a := ⟨w.heap.size, 0, none⟩) (by simp) (.int .i64 ((m : Int) - 1))).setCell (a := ⟨w.heap.size, 1, none⟩) (by simp) (.slice A (m * m) c1)).below hb3; have p0 := hF2.1.cell0; have p1 := hF2.1.cell1)
    | (go_at_call 45; ((with_reducible refine (known_any _ _ _ _ _ _).mono ?_); rintro e w4 ⟨rfl, hb4⟩); have hF3 := hF2.below hb4; have hZ3 := hZ2.below hb4; have q0 := hF3.1.cell0; have q1 := hF3.1.cell1))
  go_ret
  exact ⟨rfl, hF3.2⟩

set_option maxRecDepth 100000 in
set_option maxHeartbeats 1600000 in
theorem get_out2 {w : World} {N : Int} {Az : Option Addr} {lz cz m : Nat} {i j : Int} {C : Mat} (h0 : 0 < m) (k1 : knownB ((m : Int) - 1) i = true) (k2 : knownB ((m : Int) - 1) j = false)
    (K : ∀ W, Below w.heap.size w W → Calls Tryz.prog 34 #[zoneV N Az lz cz] W (RetC W m (some C))) :
    Calls Tryz.prog 19 #[zoneV N Az lz cz, .int .i64 i, .int .i64 j] w (RetI w (-2305843009213693952)) := by
  have HT := Lib.hid (gz_new w (.int .i64 N) (.slice Az lz cz))
  have HB := Lib.hid HT.out.2
  have HK := Lib.hid K
  clear K
  have e1 : rlen m (some C) = m * m := rfl
  have e2 := sq_pos h0
  go_enter Tryz.func19, Tryz.ntmps19
  go_wp2_with (first
    | (go_at_call 34; ((with_reducible refine (HK.out _ HB.out).mono ?_); rintro e w1 ⟨A, c1, rfl, hz1, hb1⟩); have hF1 : Gz w w1 _ _ := Gz.below HT.out hb1; have y0 := hF1.1.cell0; have y1 := hF1.1.cell1; have y4 := hF1.1.frozen0; have y5 := hF1.1.frozen1)
    | (go_at_call 35; ((with_reducible refine (none_any _ _ _ _ _).mono ?_); rintro e w3 ⟨rfl, hb3⟩); have hF2 := (hF1.put (.int .i64 ((m : Int) - 1)) (.slice A (m * m) c1)).below hb3; have hZ2 := ((hz1.setCell (a := ⟨w.heap.size, 0, none⟩) (by simp) (.int .i64 ((m : Int) - 1))).setCell (a := ⟨w.heap.size, 1, none⟩) (by simp) (.slice A (m * m) c1)).below hb3; have p0 := hF2.1.cell0; have p1 := hF2.1.cell1)
    | (go_at_call 45; ((with_reducible refine (known_any _ _ _ _ _ _).mono ?_); rintro e w4 ⟨rfl, hb4⟩); have hF3 := hF2.below hb4; have hZ3 := hZ2.below hb4; have q0 := hF3.1.cell0; have q1 := hF3.1.cell1)
    | (go_at_call 45; ((with_reducible refine (known_any _ _ _ _ _ _).mono ?_); rintro e w5 ⟨rfl, hb5⟩); have hF4 := hF3.below hb5; have hZ4 := hZ3.below hb5; have r0 := hF4.1.cell0; have r1 := hF4.1.cell1))
  go_ret
  exact ⟨rfl, hF4.2⟩

set_option maxRecDepth 100000 in
set_option maxHeartbeats 1600000 in
theorem get_in {w : World} {N : Int} {Az : Option Addr} {lz cz m : Nat} {i j : Int} {C : Mat} (h0 : 0 < m) (h7 : m ≤ 7) (k1 : knownB ((m : Int) - 1) i = true) (k2 : knownB ((m : Int) - 1) j = true)
    (K : ∀ W, Below w.heap.size w W → Calls Tryz.prog 34 #[zoneV N Az lz cz] W (RetC W m (some C))) :
    Calls Tryz.prog 19 #[zoneV N Az lz cz, .int .i64 i, .int .i64 j] w (RetI w (C i.toNat j.toNat)) := by
  have HT := Lib.hid (gz_new w (.int .i64 N) (.slice Az lz cz))
  have HB := Lib.hid HT.out.2
  have HK := Lib.hid K
  clear K
  obtain ⟨i0, rfl⟩ : ∃ a : Nat, i = a := ⟨i.toNat, by simp [knownB] at k1; omega⟩
  obtain ⟨j0, rfl⟩ : ∃ a : Nat, j = a := ⟨j.toNat, by simp [knownB] at k2; omega⟩
  have hi : i0 < m := by simp [knownB] at k1; omega
  have hj : j0 < m := by simp [knownB] at k2; omega
  have e3 : ((i0 : Int).toNat) = i0 := by simp
  have e4 : ((j0 : Int).toNat) = j0 := by simp
  rw [e3, e4]
  clear e3 e4
  have e1 : rlen m (some C) = m * m := rfl
  have e2 := sq_pos h0
  go_enter Tryz.func19, Tryz.ntmps19
  go_wp2_with (first
    | (go_at_call 34; ((with_reducible refine (HK.out _ HB.out).mono ?_); rintro e w1 ⟨A, c1, rfl, hz1, hb1⟩); have hF1 : Gz w w1 _ _ := Gz.below HT.out hb1; have y0 := hF1.1.cell0; have y1 := hF1.1.cell1; have y4 := hF1.1.frozen0; have y5 := hF1.1.frozen1)
    | (go_at_call 35; ((with_reducible refine (none_any _ _ _ _ _).mono ?_); rintro e w3 ⟨rfl, hb3⟩); have hF2 := (hF1.put (.int .i64 ((m : Int) - 1)) (.slice A (m * m) c1)).below hb3; have hZ2 := ((hz1.setCell (a := ⟨w.heap.size, 0, none⟩) (by simp) (.int .i64 ((m : Int) - 1))).setCell (a := ⟨w.heap.size, 1, none⟩) (by simp) (.slice A (m * m) c1)).below hb3; have p0 := hF2.1.cell0; have p1 := hF2.1.cell1)
    | (go_at_call 45; ((with_reducible refine (known_any _ _ _ _ _ _).mono ?_); rintro e w4 ⟨rfl, hb4⟩); have hF3 := hF2.below hb4; have hZ3 := hZ2.below hb4; have q0 := hF3.1.cell0; have q1 := hF3.1.cell1)
    | (go_at_call 45; ((with_reducible refine (known_any _ _ _ _ _ _).mono ?_); rintro e w5 ⟨rfl, hb5⟩); have hF4 := hF3.below hb5; have hZ4 := hZ3.below hb5; have r0 := hF4.1.cell0; have r1 := hF4.1.cell1))
  obtain ⟨g, rfl, hC, o⟩ := zres_some hZ4
  have HF4 := Lib.hid hF4
  refine (at_own h7 hi hj o).mono ?_
  rintro e w6 ⟨rfl, hb6⟩
  have HF6 := Lib.hid (HF4.out.below hb6)
  clear p0 p1 q0 q1 r0 r1 y0 y1 y4 y5 hF1 hF2 hF3 hF4 hZ2 hZ3 hZ4 hb1 hb3 hb4 hb5 hz1 o hC hb6
  go_wp2_with fail
  go_ret
  exact ⟨rfl, HF6.out.2⟩

theorem get_any {w : World} {N : Int} {Az : Option Addr} {lz cz m : Nat} {R : Option Mat} {i j : Int} (h0 : 0 < m) (h7 : m ≤ 7)
    (K : ∀ W, Below w.heap.size w W → Calls Tryz.prog 34 #[zoneV N Az lz cz] W (RetC W m R)) :
    Calls Tryz.prog 19 #[zoneV N Az lz cz, .int .i64 i, .int .i64 j] w (RetI w (getO m R i j)) := by
  cases R with
  | none => exact get_none K
  | some C =>
    unfold getO
    cases k1 : knownB ((m : Int) - 1) i
    · exact get_out1 h0 k1 K
    · cases k2 : knownB ((m : Int) - 1) j
      · exact get_out2 h0 k1 k2 K
      · exact get_in h0 h7 k1 k2 K
end Go.Proofs.YtlddelnbjihhgaaGreatDoor
