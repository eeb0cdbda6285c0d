/- Put together of: Known, Guard, Get, SpanOf, Small. -/
import Derived.Test.YtimckaphmfidhaaGreatDoorEqual
import Derived.Test.YtimckaphmfidhaaGreatDoorGNums
import Derived.Test.YtimckaphmfidhaaGreatDoorZSpan
import Derived.IntWalk
/- The contracts of known, named, Right, and the top. -/
namespace Go.Proofs.YtimckaphmfidhaaGreatDoor
open Go.RowKit
attribute [local go_sem ↓] Go.wp_at_zero Go.wp_at_succ

def knownB (n i : Int) : Bool := decide (0 ≤ i) && decide (i ≤ n)
def namedB (n i : Int) : Bool := decide (1 ≤ i) && decide (i ≤ n)
set_option maxRecDepth 100000 in
theorem known_any (n i : Int) (A : Option Addr) (len cap : Nat) (w : World) : Calls Tryz.prog 71 #[zoneV n A len cap, .int .i64 i] w (RetB w (knownB n i)) := by
  unfold knownB
  have hb := zboxed w (.cells #[.int .i64 n, .slice A len cap] 28)
  cases h0 : decide (0 ≤ i)
  · go_enter Tryz.func71, Tryz.ntmps71
    go_wp2_with fail
    go_ret
    exact ⟨rfl, hb⟩
  · cases h1 : decide (i ≤ n)
    · go_enter Tryz.func71, Tryz.ntmps71
      go_wp2_with fail
      go_ret
      exact ⟨rfl, hb⟩
    · go_enter Tryz.func71, Tryz.ntmps71
      go_wp2_with fail
      go_ret
      exact ⟨rfl, hb⟩
set_option maxRecDepth 100000 in
theorem named_any (n i : Int) (A : Option Addr) (len cap : Nat) (w : World) : Calls Tryz.prog 75 #[zoneV n A len cap, .int .i64 i] w (RetB w (namedB n i)) := by
  unfold namedB
  have hb := zboxed w (.cells #[.int .i64 n, .slice A len cap] 28)
  cases h0 : decide (1 ≤ i)
  · go_enter Tryz.func75, Tryz.ntmps75
    go_wp2_with fail
    go_ret
    exact ⟨rfl, hb⟩
  · cases h1 : decide (i ≤ n)
    · go_enter Tryz.func75, Tryz.ntmps75
      go_wp2_with fail
      go_ret
      exact ⟨rfl, hb⟩
    · go_enter Tryz.func75, Tryz.ntmps75
      go_wp2_with fail
      go_ret
      exact ⟨rfl, hb⟩

set_option maxRecDepth 100000 in
set_option maxHeartbeats 1600000 in
/-- Right of a right one. -/
theorem right_right {w : World} {A : Option Addr} {c m base : Nat} {R R2 : Option Mat} (h0 : 0 < m) (h7 : m ≤ 7) (hz : ZRes w base m R (zoneV ((m : Int) - 1) A (rlen m R) c)) (hbase : base ≤ w.heap.size)
    (K : ∀ W, Below w.heap.size w W → Calls Tryz.prog 70 #[zoneV ((m : Int) - 1) A (rlen m R) c] W (RetC W m R2)) :
    Calls Tryz.prog 28 #[zoneV ((m : Int) - 1) A (rlen m R) c] w (RetB w (sameO m m R R2)) := by
  have HD := Lib.hid ((Duo.new w 28 (.int .i64 ((m : Int) - 1)) (.slice A (rlen m R) c)))
  have HB := Lib.hid (zboxed w (.cells #[.int .i64 ((m : Int) - 1), .slice A (rlen m R) c] 28))
  have HZ := Lib.hid hz
  have HK := Lib.hid K
  clear hz K
  go_enter Tryz.func28, Tryz.ntmps28
  go_wp2_with fail
  have k0 := HD.out.cell0
  have k1 := HD.out.cell1
  have HB0 := Lib.hid HB.out.drew
  have HD2 : Hid (Duo (w.alloc (.cells #[.int .i64 ((m : Int) - 1), .slice A (rlen m R) c] 28)).drew w.heap.size 28 (.int .i64 ((m : Int) - 1)) (.slice A (rlen m R) c)) := Lib.hid HD.out
  go_region_with (first
    | (go_at_call 70; ((with_reducible refine (HK.out _ HB0.out).mono ?_); rintro e w1 ⟨A1, c1, rfl, hz1, hb1⟩); have HB1 := Lib.hid (HB0.out.trans (hb1.mono HB0.out.size)); have x1 := HD2.out.below hb1; have y0 := x1.cell0; have y1 := x1.cell1; have z1 := HZ.out.below HB1.out; have z2 := hz1.lower (Nat.le_trans hbase HB0.out.size))
    | (go_at_call 78; ((with_reducible refine (equal_any h0 h7 z1 z2).mono ?_); rintro e w3 ⟨rfl, hb3⟩)))
  all_goals go_wp2_with fail
  all_goals go_ret
  all_goals exact ⟨rfl, HB1.out.trans (hb3.mono HB1.out.size)⟩

set_option maxRecDepth 100000 in
set_option maxHeartbeats 1600000 in
/-- The zone of all points. -/
theorem top_any (m : Nat) (hm7 : m ≤ 7) (h0m : 0 < m) (w : World) : Calls Tryz.prog 26 #[.int .i64 ((m : Int) - 1)] w (RetC w m (some far)) := by
  have hmay := (zm_of h0m hm7).1
  have HT := Lib.hid (Duo.new w 28 (.int .i64 0) (.slice none 0 0))
  have HB := Lib.hid (zboxed w (.cells #[.int .i64 0, .slice none 0 0] 28))
  go_enter Tryz.func26, Tryz.ntmps26
  go_wp2_with (go_at_call 73; ((with_reducible refine (may_any _ _).mono ?_); rintro e w' ⟨rfl, rfl⟩))
  refine (fill_any 74 #[] m hm7 h0m far _ (enters_of Tryz.func74 (by kernel_rfl) rfl) (fun i j W hi hj _ => (far_any i j (by omega) (by omega) W).mono (by rintro e w' ⟨rfl, rfl⟩; exact ⟨rfl, Below.refl _ _⟩))).mono ?_
  rintro e w2 ⟨v2, rfl, ho2, hb2⟩
  obtain ⟨g, c2, rfl⟩ := own_slice ho2 (Nat.mul_pos h0m h0m)
  have hg2 := (ho2.lt g rfl).1
  simp only [World.size_alloc] at hg2
  have hD2 := HT.out.below hb2
  have HB2 := Lib.hid (HB.out.trans (hb2.mono HB.out.size))
  have HO2 := Lib.hid ho2
  have d0 := hD2.cell0
  have d1 := hD2.cell1
  have f0 := hD2.frozen0
  have f1 := hD2.frozen1
  clear hb2 ho2
  go_wp2_with fail
  refine post_cell (rb := w.heap.size) Tryz.results26 rfl rfl ((hD2.set0 _).set1 _) ⟨_, c2, rfl, ⟨⟨fun i _ => far_same i, fun i j _ _ => Int.le_refl _, fun k i j _ _ _ => far_tri i j k⟩, g, c2, rfl, ?_⟩, (HB2.out.setCell (p := ⟨w.heap.size, 0, none⟩) (by simp) _).setCell (p := ⟨w.heap.size, 1, none⟩) (by simp) _⟩
  exact own_lower ((HO2.out.kept (duo_grown_setCell _ _ _) (.inr (by simp [Value.ownBlock]; omega))).kept (duo_grown_setCell _ _ _) (.inr (by simp [Value.ownBlock]; omega))) (by simp <;> omega)
end Go.Proofs.YtimckaphmfidhaaGreatDoor

/- The contract of Guard: any zone, any two variables. -/
namespace Go.Proofs.YtimckaphmfidhaaGreatDoor
open Go.RowKit
attribute [local go_sem ↓] Go.wp_at_zero Go.wp_at_succ

/-- The box of the zone that was closed, and the result's. -/
def Gd (w W : World) (a a' b b' : Value) : Prop := Duo W w.heap.size 28 a a' ∧ Duo W (w.heap.size + 1) 28 b b' ∧ Below w.heap.size w W
theorem Gd.below {w W W1 : World} {a a' b b' : Value} (h : Gd w W a a' b b') (hb : Below W.heap.size W W1) : Gd w W1 a a' b b' := ⟨h.1.below hb, h.2.1.below hb, h.2.2.trans (hb.mono h.2.2.size)⟩
theorem Gd.put {w W : World} {a a' b b' : Value} (h : Gd w W a a' b b') (x x' : Value) : Gd w ((W.setCell ⟨w.heap.size, 0, none⟩ x).setCell ⟨w.heap.size, 1, none⟩ x') x x' b b' :=
  ⟨(h.1.set0 x).set1 x', (h.2.1.other (by simp) _).other (by simp) _, (h.2.2.setCell (p := ⟨w.heap.size, 0, none⟩) (by simp) _).setCell (p := ⟨w.heap.size, 1, none⟩) (by simp) _⟩
theorem Gd.drew {w W : World} {a a' b b' : Value} (h : Gd w W a a' b b') : Gd w W.drew a a' b b' := ⟨h.1, h.2.1, h.2.2.drew⟩
/-- A bound that is lowered. -/
def grd (C : Mat) (i j : Nat) (c : Int) : Mat := upd C i j (min (C i j) c)
def grdO (m : Nat) (R : Option Mat) (i j c : Int) : Option Mat :=
  match R with
  | none => none
  | some C => if (knownB ((m : Int) - 1) i && knownB ((m : Int) - 1) j) = true then setR m (grd C i.toNat j.toNat c) else some C

set_option maxRecDepth 100000 in
set_option maxHeartbeats 1600000 in
theorem guard_none {w : World} {N : Int} {Az : Option Addr} {lz cz m : Nat} {i j c : Int} 
    (K : ∀ W, Below w.heap.size w W → Calls Tryz.prog 70 #[zoneV N Az lz cz] W (RetC W m none)) :
    Calls Tryz.prog 25 #[zoneV N Az lz cz, .int .i64 i, .int .i64 j, .int .i64 c] w (RetC w m none) := by
  have HT := Lib.hid (two_boxes w 28 (.int .i64 N) (.slice Az lz cz) (.int .i64 0) (.slice none 0 0))
  have HK := Lib.hid K
  clear K
  have e0 : rlen m (none : Option Mat) = 0 := rfl
  go_enter Tryz.func25, Tryz.ntmps25
  go_wp2_with (first
    | (go_at_call 70; ((with_reducible refine (HK.out _ HT.out.2.2).mono ?_); rintro e w1 ⟨A, c1, rfl, hz1, hb1⟩); have hF1 : Gd w w1 _ _ _ _ := Gd.below HT.out hb1; have hy1 := hz1.below (Below.refl _ _); have y0 := hF1.1.cell0; have y1 := hF1.1.cell1; have y4 := hF1.1.frozen0; have y5 := hF1.1.frozen1)
    | (go_at_call 37; ((with_reducible refine (none_any _ _ _ _ _).mono ?_); rintro e w3 ⟨rfl, hb3⟩); have hF2 := (hF1.put (.int .i64 ((m : Int) - 1)) (.slice A 0 c1)).below hb3; have hZ2 := ((hz1.setCell (a := ⟨w.heap.size, 0, none⟩) (by simp; omega) (.int .i64 ((m : Int) - 1))).setCell (a := ⟨w.heap.size, 1, none⟩) (by simp; omega) (.slice A 0 c1)).below hb3; have p0 := hF2.1.cell0; have p1 := hF2.1.cell1; have p2 := hF2.2.1.cell0; have p3 := hF2.2.1.cell1; have p4 := hF2.2.1.frozen0; have p5 := hF2.2.1.frozen1))
  have hD := ((hF2.2.1.set0 (.int .i64 ((m : Int) - 1))).set1 (.slice A 0 c1))
  exact post_cell (rb := w.heap.size + 1) Tryz.results25 rfl rfl hD ⟨A, c1, rfl, ((hZ2.lower (by simp <;> omega)).setBox hF2.2.1 _).setBox (hF2.2.1.set0 _) _, (hF2.2.2.setCell (p := ⟨w.heap.size + 1, 0, none⟩) (by simp) _).setCell (p := ⟨w.heap.size + 1, 1, none⟩) (by simp) _⟩

set_option maxRecDepth 100000 in
set_option maxHeartbeats 1600000 in
theorem guard_out1 {w : World} {N : Int} {Az : Option Addr} {lz cz m : Nat} {i j c : Int} {C : Mat} (h0 : 0 < m) (k1 : knownB ((m : Int) - 1) i = false)
    (K : ∀ W, Below w.heap.size w W → Calls Tryz.prog 70 #[zoneV N Az lz cz] W (RetC W m (some C))) :
    Calls Tryz.prog 25 #[zoneV N Az lz cz, .int .i64 i, .int .i64 j, .int .i64 c] w (RetC w m (some C)) := by
  have HT := Lib.hid (two_boxes w 28 (.int .i64 N) (.slice Az lz cz) (.int .i64 0) (.slice none 0 0))
  have HK := Lib.hid K
  clear K
  have e1 : rlen m (some C) = m * m := rfl
  have e2 := sq_pos h0
  go_enter Tryz.func25, Tryz.ntmps25
  go_wp2_with (first
    | (go_at_call 70; ((with_reducible refine (HK.out _ HT.out.2.2).mono ?_); rintro e w1 ⟨A, c1, rfl, hz1, hb1⟩); have hF1 : Gd w w1 _ _ _ _ := Gd.below HT.out hb1; have hy1 := hz1.below (Below.refl _ _); have y0 := hF1.1.cell0; have y1 := hF1.1.cell1; have y4 := hF1.1.frozen0; have y5 := hF1.1.frozen1)
    | (go_at_call 37; ((with_reducible refine (none_any _ _ _ _ _).mono ?_); rintro e w3 ⟨rfl, hb3⟩); have hF2 := (hF1.put (.int .i64 ((m : Int) - 1)) (.slice A (m * m) c1)).below hb3; have hZ2 := ((hz1.setCell (a := ⟨w.heap.size, 0, none⟩) (by simp; omega) (.int .i64 ((m : Int) - 1))).setCell (a := ⟨w.heap.size, 1, none⟩) (by simp; omega) (.slice A (m * m) c1)).below hb3; have p0 := hF2.1.cell0; have p1 := hF2.1.cell1; have p2 := hF2.2.1.cell0; have p3 := hF2.2.1.cell1; have p4 := hF2.2.1.frozen0; have p5 := hF2.2.1.frozen1)
    | (go_at_call 71; ((with_reducible refine (known_any _ _ _ _ _ _).mono ?_); rintro e w4 ⟨rfl, hb4⟩); have hF3 := hF2.below hb4; have hZ3 := hZ2.below hb4; have q0 := hF3.1.cell0; have q1 := hF3.1.cell1; have q2 := hF3.2.1.cell0; have q3 := hF3.2.1.cell1; have q4 := hF3.2.1.frozen0; have q5 := hF3.2.1.frozen1))
  have hD := ((hF3.2.1.set0 (.int .i64 ((m : Int) - 1))).set1 (.slice A (m * m) c1))
  exact post_cell (rb := w.heap.size + 1) Tryz.results25 rfl rfl hD ⟨A, c1, rfl, ((hZ3.lower (by simp <;> omega)).setBox hF3.2.1 _).setBox (hF3.2.1.set0 _) _, (hF3.2.2.setCell (p := ⟨w.heap.size + 1, 0, none⟩) (by simp) _).setCell (p := ⟨w.heap.size + 1, 1, none⟩) (by simp) _⟩

set_option maxRecDepth 100000 in
set_option maxHeartbeats 1600000 in
theorem guard_out2 {w : World} {N : Int} {Az : Option Addr} {lz cz m : Nat} {i j c : Int} {C : Mat} (h0 : 0 < m) (k1 : knownB ((m : Int) - 1) i = true) (k2 : knownB ((m : Int) - 1) j = false)
    (K : ∀ W, Below w.heap.size w W → Calls Tryz.prog 70 #[zoneV N Az lz cz] W (RetC W m (some C))) :
    Calls Tryz.prog 25 #[zoneV N Az lz cz, .int .i64 i, .int .i64 j, .int .i64 c] w (RetC w m (some C)) := by
  have HT := Lib.hid (two_boxes w 28 (.int .i64 N) (.slice Az lz cz) (.int .i64 0) (.slice none 0 0))
  have HK := Lib.hid K
  clear K
  have e1 : rlen m (some C) = m * m := rfl
  have e2 := sq_pos h0
  go_enter Tryz.func25, Tryz.ntmps25
  go_wp2_with (first
    | (go_at_call 70; ((with_reducible refine (HK.out _ HT.out.2.2).mono ?_); rintro e w1 ⟨A, c1, rfl, hz1, hb1⟩); have hF1 : Gd w w1 _ _ _ _ := Gd.below HT.out hb1; have hy1 := hz1.below (Below.refl _ _); have y0 := hF1.1.cell0; have y1 := hF1.1.cell1; have y4 := hF1.1.frozen0; have y5 := hF1.1.frozen1)
    | (go_at_call 37; ((with_reducible refine (none_any _ _ _ _ _).mono ?_); rintro e w3 ⟨rfl, hb3⟩); have hF2 := (hF1.put (.int .i64 ((m : Int) - 1)) (.slice A (m * m) c1)).below hb3; have hZ2 := ((hz1.setCell (a := ⟨w.heap.size, 0, none⟩) (by simp; omega) (.int .i64 ((m : Int) - 1))).setCell (a := ⟨w.heap.size, 1, none⟩) (by simp; omega) (.slice A (m * m) c1)).below hb3; have p0 := hF2.1.cell0; have p1 := hF2.1.cell1; have p2 := hF2.2.1.cell0; have p3 := hF2.2.1.cell1; have p4 := hF2.2.1.frozen0; have p5 := hF2.2.1.frozen1)
    | (go_at_call 71; ((with_reducible refine (known_any _ _ _ _ _ _).mono ?_); rintro e w4 ⟨rfl, hb4⟩); have hF3 := hF2.below hb4; have hZ3 := hZ2.below hb4; have q0 := hF3.1.cell0; have q1 := hF3.1.cell1; have q2 := hF3.2.1.cell0; have q3 := hF3.2.1.cell1; have q4 := hF3.2.1.frozen0; have q5 := hF3.2.1.frozen1)
    | (go_at_call 71; ((with_reducible refine (known_any _ _ _ _ _ _).mono ?_); rintro e w5 ⟨rfl, hb5⟩); have hF4 := hF3.below hb5; have hZ4 := hZ3.below hb5; have r0 := hF4.1.cell0; have r1 := hF4.1.cell1; have r2 := hF4.2.1.cell0; have r3 := hF4.2.1.cell1; have r4 := hF4.2.1.frozen0; have r5 := hF4.2.1.frozen1))
  have hD := ((hF4.2.1.set0 (.int .i64 ((m : Int) - 1))).set1 (.slice A (m * m) c1))
  exact post_cell (rb := w.heap.size + 1) Tryz.results25 rfl rfl hD ⟨A, c1, rfl, ((hZ4.lower (by simp <;> omega)).setBox hF4.2.1 _).setBox (hF4.2.1.set0 _) _, (hF4.2.2.setCell (p := ⟨w.heap.size + 1, 0, none⟩) (by simp) _).setCell (p := ⟨w.heap.size + 1, 1, none⟩) (by simp) _⟩

set_option maxRecDepth 100000 in
set_option maxHeartbeats 1600000 in
theorem guard_in {w : World} {N : Int} {Az : Option Addr} {lz cz m : Nat} {i j c : Int} {C : Mat} (h0 : 0 < m) (h7 : m ≤ 7) (k1 : knownB ((m : Int) - 1) i = true) (k2 : knownB ((m : Int) - 1) j = true) (hcc : -9223372036854775808 ≤ c ∧ c ≤ 9223372036854775807)
    (K : ∀ W, Below w.heap.size w W → Calls Tryz.prog 70 #[zoneV N Az lz cz] W (RetC W m (some C))) :
    Calls Tryz.prog 25 #[zoneV N Az lz cz, .int .i64 i, .int .i64 j, .int .i64 c] w (RetC w m (setR m (grd C i.toNat j.toNat c))) := by
  have HT := Lib.hid (two_boxes w 28 (.int .i64 N) (.slice Az lz cz) (.int .i64 0) (.slice none 0 0))
  have HK := Lib.hid K
  clear K
  have HCC := Lib.hid hcc
  clear hcc
  obtain ⟨i0, rfl⟩ : ∃ a : Nat, i = a := ⟨i.toNat, by simp [knownB] at k1; omega⟩
  obtain ⟨j0, rfl⟩ : ∃ a : Nat, j = a := ⟨j.toNat, by simp [knownB] at k2; omega⟩
  have hi : i0 < m := by simp [knownB] at k1; omega
  have hj : j0 < m := by simp [knownB] at k2; omega
  have hc := HCC.out
  have e3 : ((i0 : Int).toNat) = i0 := by simp
  have e4 : ((j0 : Int).toNat) = j0 := by simp
  rw [e3, e4]
  clear e3 e4
  have e1 : rlen m (some C) = m * m := rfl
  have e2 := sq_pos h0
  go_enter Tryz.func25, Tryz.ntmps25
  go_wp2_with (first
    | (go_at_call 70; ((with_reducible refine (HK.out _ HT.out.2.2).mono ?_); rintro e w1 ⟨A, c1, rfl, hz1, hb1⟩); have hF1 : Gd w w1 _ _ _ _ := Gd.below HT.out hb1; have hy1 := hz1.below (Below.refl _ _); have y0 := hF1.1.cell0; have y1 := hF1.1.cell1; have y4 := hF1.1.frozen0; have y5 := hF1.1.frozen1)
    | (go_at_call 37; ((with_reducible refine (none_any _ _ _ _ _).mono ?_); rintro e w3 ⟨rfl, hb3⟩); have hF2 := (hF1.put (.int .i64 ((m : Int) - 1)) (.slice A (m * m) c1)).below hb3; have hZ2 := ((hz1.setCell (a := ⟨w.heap.size, 0, none⟩) (by simp; omega) (.int .i64 ((m : Int) - 1))).setCell (a := ⟨w.heap.size, 1, none⟩) (by simp; omega) (.slice A (m * m) c1)).below hb3; have p0 := hF2.1.cell0; have p1 := hF2.1.cell1; have p2 := hF2.2.1.cell0; have p3 := hF2.2.1.cell1; have p4 := hF2.2.1.frozen0; have p5 := hF2.2.1.frozen1)
    | (go_at_call 71; ((with_reducible refine (known_any _ _ _ _ _ _).mono ?_); rintro e w4 ⟨rfl, hb4⟩); have hF3 := hF2.below hb4; have hZ3 := hZ2.below hb4; have q0 := hF3.1.cell0; have q1 := hF3.1.cell1; have q2 := hF3.2.1.cell0; have q3 := hF3.2.1.cell1; have q4 := hF3.2.1.frozen0; have q5 := hF3.2.1.frozen1)
    | (go_at_call 71; ((with_reducible refine (known_any _ _ _ _ _ _).mono ?_); rintro e w5 ⟨rfl, hb5⟩); have hF4 := hF3.below hb5; have hZ4 := hZ3.below hb5; have r0 := hF4.1.cell0; have r1 := hF4.1.cell1; have r2 := hF4.2.1.cell0; have r3 := hF4.2.1.cell1; have r4 := hF4.2.1.frozen0; have r5 := hF4.2.1.frozen1))
  obtain ⟨g, rfl, hC, o⟩ := zres_some hZ4
  have hgl := (o.lt g rfl).1
  simp at hgl
  have HC := Lib.hid hC
  have HF4 := Lib.hid hF4
  have hs4 := hF4.2.1.lt
  refine (lower_any m i0 j0 h7 hi hj g c1 _ (flatL m C) (C i0 j0) c w5 o (flat_at C hi hj)).mono ?_
  rintro e w6 ⟨⟨v, rfl⟩, ho6, hg6⟩
  rw [flat_set C hj] at ho6
  have hF6 : Gd w w6 (.int .i64 ((m : Int) - 1)) (.slice (some ⟨g, 0, none⟩) (m * m) c1) (.int .i64 0) (.slice none 0 0) := ⟨HF4.out.1.kept hg6 (by simp; omega), HF4.out.2.1.kept hg6 (by simp; omega), HF4.out.2.2.grown hg6 HF4.out.2.2.size (fun r e => by cases e; omega)⟩
  have HF6 := Lib.hid hF6
  have HO6 := Lib.hid ho6
  have s0 := hF6.1.cell0
  have s1 := hF6.1.cell1
  clear p0 p1 p2 p3 p4 p5 q0 q1 q2 q3 q4 q5 r0 r1 r2 r3 r4 r5 y0 y1 y4 y5 hF1 hF2 hF3 hF4 hZ2 hZ3 hZ4 hb1 hb3 hb4 hb5 hz1 hy1 o hC hF6 ho6 hg6
  go_wp2_with fail
  refine (settle_any m h7 h0 (grd C i0 j0 c) g c1 _ w6 (fun a b ha hb => by have h1 := HC.out.bd ha hb; have h2 := HC.out.bd hi hj; have h3 := HCC.out; unfold grd upd; split <;> omega) HO6.out).mono ?_
  rintro e w7 (⟨ha, rfl, ho7, hg7⟩ | ⟨hna, rfl, hg7⟩)
  · have hD3 := HF6.out.2.1.kept hg7 (by simp; omega)
    have hB3 := HF6.out.2.2.grown hg7 HF6.out.2.2.size (fun r e => by cases e; omega)
    have d0 := hD3.cell0
    have d1 := hD3.cell1
    have f0 := hD3.frozen0
    have f1 := hD3.frozen1
    have HO7 := Lib.hid ho7
    have HB3 := Lib.hid hB3
    clear ho7 hB3 hg7
    go_wp2_with fail
    refine post_cell (rb := w.heap.size + 1) Tryz.results25 rfl rfl ((hD3.set0 _).set1 _) ?_
    rw [setR_yes ha]
    refine ⟨_, c1, rfl, ⟨lev_closed ha, g, c1, rfl, ?_⟩, (HB3.out.setCell (p := ⟨w.heap.size + 1, 0, none⟩) (by simp) _).setCell (p := ⟨w.heap.size + 1, 1, none⟩) (by simp) _⟩
    exact own_lower ((HO7.out.kept (duo_grown_setCell _ _ _) (.inr (by simp [Value.ownBlock]; omega))).kept (duo_grown_setCell _ _ _) (.inr (by simp [Value.ownBlock]; omega))) (by simp <;> omega)
  · have hD3 := HF6.out.2.1.kept hg7 (by simp; omega)
    have hB3 := HF6.out.2.2.grown hg7 HF6.out.2.2.size (fun r e => by cases e; omega)
    have d0 := hD3.cell0
    have d1 := hD3.cell1
    have f0 := hD3.frozen0
    have f1 := hD3.frozen1
    have HB3 := Lib.hid hB3
    clear hB3 hg7
    go_wp2_with fail
    refine post_cell (rb := w.heap.size + 1) Tryz.results25 rfl rfl ((hD3.set0 _).set1 _) ?_
    rw [setR_no hna]
    exact ⟨none, 0, rfl, rfl, (HB3.out.setCell (p := ⟨w.heap.size + 1, 0, none⟩) (by simp) _).setCell (p := ⟨w.heap.size + 1, 1, none⟩) (by simp) _⟩

theorem guard_any {w : World} {N : Int} {Az : Option Addr} {lz cz m : Nat} {R : Option Mat} {i j c : Int} (h0 : 0 < m) (h7 : m ≤ 7) (hcc : -9223372036854775808 ≤ c ∧ c ≤ 9223372036854775807)
    (K : ∀ W, Below w.heap.size w W → Calls Tryz.prog 70 #[zoneV N Az lz cz] W (RetC W m R)) :
    Calls Tryz.prog 25 #[zoneV N Az lz cz, .int .i64 i, .int .i64 j, .int .i64 c] w (RetC w m (grdO m R i j c)) := by
  cases R with
  | none => exact guard_none K
  | some C =>
    unfold grdO
    cases k1 : knownB ((m : Int) - 1) i
    · exact guard_out1 h0 k1 K
    · cases k2 : knownB ((m : Int) - 1) j
      · exact guard_out2 h0 k1 k2 K
      · exact guard_in h0 h7 k1 k2 hcc K
end Go.Proofs.YtimckaphmfidhaaGreatDoor

/- The contracts of Get and Span: any zone. -/
namespace Go.Proofs.YtimckaphmfidhaaGreatDoor
open Go.RowKit
attribute [local go_sem ↓] Go.wp_at_zero Go.wp_at_succ

/-- The box of the zone that was closed. -/
def Gz (w W : World) (a a' : Value) : Prop := Duo W w.heap.size 28 a a' ∧ Below w.heap.size w W
theorem gz_new (w : World) (a a' : Value) : Gz w (w.alloc (.cells #[a, a'] 28)) a a' := ⟨Duo.new w _ _ _, zboxed _ _⟩
theorem Gz.below {w W W1 : World} {a a' : Value} (h : Gz w W a a') (hb : Below W.heap.size W W1) : Gz w W1 a a' := ⟨h.1.below hb, h.2.trans (hb.mono h.2.size)⟩
theorem Gz.put {w W : World} {a a' : Value} (h : Gz w W a a') (x x' : Value) : Gz w ((W.setCell ⟨w.heap.size, 0, none⟩ x).setCell ⟨w.heap.size, 1, none⟩ x') x x' :=
  ⟨(h.1.set0 x).set1 x', (h.2.setCell (p := ⟨w.heap.size, 0, none⟩) (by simp) _).setCell (p := ⟨w.heap.size, 1, none⟩) (by simp) _⟩
theorem Gz.drew {w W : World} {a a' : Value} (h : Gz w W a a') : Gz w W.drew a a' := ⟨h.1, h.2.drew⟩
def getO (m : Nat) (R : Option Mat) (i j : Int) : Int :=
  match R with
  | none => -2305843009213693952
  | some C => if (knownB ((m : Int) - 1) i && knownB ((m : Int) - 1) j) = true then C i.toNat j.toNat else -2305843009213693952
def RetI (w : World) (x : Int) (e : Ending) (w' : World) : Prop := e = .returned (.int .i64 x) ∧ Below w.heap.size w w'

set_option maxRecDepth 100000 in
set_option maxHeartbeats 1600000 in
theorem get_none {w : World} {N : Int} {Az : Option Addr} {lz cz m : Nat} {i j : Int} 
    (K : ∀ W, Below w.heap.size w W → Calls Tryz.prog 70 #[zoneV N Az lz cz] W (RetC W m none)) :
    Calls Tryz.prog 29 #[zoneV N Az lz cz, .int .i64 i, .int .i64 j] w (RetI w (-2305843009213693952)) := by
  have HT := Lib.hid (gz_new w (.int .i64 N) (.slice Az lz cz))
  have HB := Lib.hid HT.out.2
  have HK := Lib.hid K
  clear K
  have e0 : rlen m (none : Option Mat) = 0 := rfl
  go_enter Tryz.func29, Tryz.ntmps29
  go_wp2_with (first
    | (go_at_call 70; ((with_reducible refine (HK.out _ HB.out).mono ?_); rintro e w1 ⟨A, c1, rfl, hz1, hb1⟩); have hF1 : Gz w w1 _ _ := Gz.below HT.out hb1; have y0 := hF1.1.cell0; have y1 := hF1.1.cell1; have y4 := hF1.1.frozen0; have y5 := hF1.1.frozen1)
    | (go_at_call 37; ((with_reducible refine (none_any _ _ _ _ _).mono ?_); rintro e w3 ⟨rfl, hb3⟩); have hF2 := (hF1.put (.int .i64 ((m : Int) - 1)) (.slice A 0 c1)).below hb3; have hZ2 := ((hz1.setCell (a := ⟨w.heap.size, 0, none⟩) (by simp) (.int .i64 ((m : Int) - 1))).setCell (a := ⟨w.heap.size, 1, none⟩) (by simp) (.slice A 0 c1)).below hb3; have p0 := hF2.1.cell0; have p1 := hF2.1.cell1))
  go_ret
  exact ⟨rfl, hF2.2⟩

set_option maxRecDepth 100000 in
set_option maxHeartbeats 1600000 in
theorem get_out1 {w : World} {N : Int} {Az : Option Addr} {lz cz m : Nat} {i j : Int} {C : Mat} (h0 : 0 < m) (k1 : knownB ((m : Int) - 1) i = false)
    (K : ∀ W, Below w.heap.size w W → Calls Tryz.prog 70 #[zoneV N Az lz cz] W (RetC W m (some C))) :
    Calls Tryz.prog 29 #[zoneV N Az lz cz, .int .i64 i, .int .i64 j] w (RetI w (-2305843009213693952)) := by
  have HT := Lib.hid (gz_new w (.int .i64 N) (.slice Az lz cz))
  have HB := Lib.hid HT.out.2
  have HK := Lib.hid K
  clear K
  have e1 : rlen m (some C) = m * m := rfl
  have e2 := sq_pos h0
  go_enter Tryz.func29, Tryz.ntmps29
  go_wp2_with (first
    | (go_at_call 70; ((with_reducible refine (HK.out _ HB.out).mono ?_); rintro e w1 ⟨A, c1, rfl, hz1, hb1⟩); have hF1 : Gz w w1 _ _ := Gz.below HT.out hb1; have y0 := hF1.1.cell0; have y1 := hF1.1.cell1; have y4 := hF1.1.frozen0; have y5 := hF1.1.frozen1)
    | (go_at_call 37; ((with_reducible refine (none_any _ _ _ _ _).mono ?_); rintro e w3 ⟨rfl, hb3⟩); have hF2 := (hF1.put (.int .i64 ((m : Int) - 1)) (.slice A (m * m) c1)).below hb3; have hZ2 := ((hz1.setCell (a := ⟨w.heap.size, 0, none⟩) (by simp) (.int .i64 ((m : Int) - 1))).setCell (a := ⟨w.heap.size, 1, none⟩) (by simp) (.slice A (m * m) c1)).below hb3; have p0 := hF2.1.cell0; have p1 := hF2.1.cell1)
    | (go_at_call 71; ((with_reducible refine (known_any _ _ _ _ _ _).mono ?_); rintro e w4 ⟨rfl, hb4⟩); have hF3 := hF2.below hb4; have hZ3 := hZ2.below hb4; have q0 := hF3.1.cell0; have q1 := hF3.1.cell1))
  go_ret
  exact ⟨rfl, hF3.2⟩

set_option maxRecDepth 100000 in
set_option maxHeartbeats 1600000 in
theorem get_out2 {w : World} {N : Int} {Az : Option Addr} {lz cz m : Nat} {i j : Int} {C : Mat} (h0 : 0 < m) (k1 : knownB ((m : Int) - 1) i = true) (k2 : knownB ((m : Int) - 1) j = false)
    (K : ∀ W, Below w.heap.size w W → Calls Tryz.prog 70 #[zoneV N Az lz cz] W (RetC W m (some C))) :
    Calls Tryz.prog 29 #[zoneV N Az lz cz, .int .i64 i, .int .i64 j] w (RetI w (-2305843009213693952)) := by
  have HT := Lib.hid (gz_new w (.int .i64 N) (.slice Az lz cz))
  have HB := Lib.hid HT.out.2
  have HK := Lib.hid K
  clear K
  have e1 : rlen m (some C) = m * m := rfl
  have e2 := sq_pos h0
  go_enter Tryz.func29, Tryz.ntmps29
  go_wp2_with (first
    | (go_at_call 70; ((with_reducible refine (HK.out _ HB.out).mono ?_); rintro e w1 ⟨A, c1, rfl, hz1, hb1⟩); have hF1 : Gz w w1 _ _ := Gz.below HT.out hb1; have y0 := hF1.1.cell0; have y1 := hF1.1.cell1; have y4 := hF1.1.frozen0; have y5 := hF1.1.frozen1)
    | (go_at_call 37; ((with_reducible refine (none_any _ _ _ _ _).mono ?_); rintro e w3 ⟨rfl, hb3⟩); have hF2 := (hF1.put (.int .i64 ((m : Int) - 1)) (.slice A (m * m) c1)).below hb3; have hZ2 := ((hz1.setCell (a := ⟨w.heap.size, 0, none⟩) (by simp) (.int .i64 ((m : Int) - 1))).setCell (a := ⟨w.heap.size, 1, none⟩) (by simp) (.slice A (m * m) c1)).below hb3; have p0 := hF2.1.cell0; have p1 := hF2.1.cell1)
    | (go_at_call 71; ((with_reducible refine (known_any _ _ _ _ _ _).mono ?_); rintro e w4 ⟨rfl, hb4⟩); have hF3 := hF2.below hb4; have hZ3 := hZ2.below hb4; have q0 := hF3.1.cell0; have q1 := hF3.1.cell1)
    | (go_at_call 71; ((with_reducible refine (known_any _ _ _ _ _ _).mono ?_); rintro e w5 ⟨rfl, hb5⟩); have hF4 := hF3.below hb5; have hZ4 := hZ3.below hb5; have r0 := hF4.1.cell0; have r1 := hF4.1.cell1))
  go_ret
  exact ⟨rfl, hF4.2⟩

set_option maxRecDepth 100000 in
set_option maxHeartbeats 1600000 in
theorem get_in {w : World} {N : Int} {Az : Option Addr} {lz cz m : Nat} {i j : Int} {C : Mat} (h0 : 0 < m) (h7 : m ≤ 7) (k1 : knownB ((m : Int) - 1) i = true) (k2 : knownB ((m : Int) - 1) j = true)
    (K : ∀ W, Below w.heap.size w W → Calls Tryz.prog 70 #[zoneV N Az lz cz] W (RetC W m (some C))) :
    Calls Tryz.prog 29 #[zoneV N Az lz cz, .int .i64 i, .int .i64 j] w (RetI w (C i.toNat j.toNat)) := by
  have HT := Lib.hid (gz_new w (.int .i64 N) (.slice Az lz cz))
  have HB := Lib.hid HT.out.2
  have HK := Lib.hid K
  clear K
  obtain ⟨i0, rfl⟩ : ∃ a : Nat, i = a := ⟨i.toNat, by simp [knownB] at k1; omega⟩
  obtain ⟨j0, rfl⟩ : ∃ a : Nat, j = a := ⟨j.toNat, by simp [knownB] at k2; omega⟩
  have hi : i0 < m := by simp [knownB] at k1; omega
  have hj : j0 < m := by simp [knownB] at k2; omega
  have e3 : ((i0 : Int).toNat) = i0 := by simp
  have e4 : ((j0 : Int).toNat) = j0 := by simp
  rw [e3, e4]
  clear e3 e4
  have e1 : rlen m (some C) = m * m := rfl
  have e2 := sq_pos h0
  go_enter Tryz.func29, Tryz.ntmps29
  go_wp2_with (first
    | (go_at_call 70; ((with_reducible refine (HK.out _ HB.out).mono ?_); rintro e w1 ⟨A, c1, rfl, hz1, hb1⟩); have hF1 : Gz w w1 _ _ := Gz.below HT.out hb1; have y0 := hF1.1.cell0; have y1 := hF1.1.cell1; have y4 := hF1.1.frozen0; have y5 := hF1.1.frozen1)
    | (go_at_call 37; ((with_reducible refine (none_any _ _ _ _ _).mono ?_); rintro e w3 ⟨rfl, hb3⟩); have hF2 := (hF1.put (.int .i64 ((m : Int) - 1)) (.slice A (m * m) c1)).below hb3; have hZ2 := ((hz1.setCell (a := ⟨w.heap.size, 0, none⟩) (by simp) (.int .i64 ((m : Int) - 1))).setCell (a := ⟨w.heap.size, 1, none⟩) (by simp) (.slice A (m * m) c1)).below hb3; have p0 := hF2.1.cell0; have p1 := hF2.1.cell1)
    | (go_at_call 71; ((with_reducible refine (known_any _ _ _ _ _ _).mono ?_); rintro e w4 ⟨rfl, hb4⟩); have hF3 := hF2.below hb4; have hZ3 := hZ2.below hb4; have q0 := hF3.1.cell0; have q1 := hF3.1.cell1)
    | (go_at_call 71; ((with_reducible refine (known_any _ _ _ _ _ _).mono ?_); rintro e w5 ⟨rfl, hb5⟩); have hF4 := hF3.below hb5; have hZ4 := hZ3.below hb5; have r0 := hF4.1.cell0; have r1 := hF4.1.cell1))
  obtain ⟨g, rfl, hC, o⟩ := zres_some hZ4
  have HF4 := Lib.hid hF4
  refine (at_own h7 hi hj o).mono ?_
  rintro e w6 ⟨rfl, hb6⟩
  have HF6 := Lib.hid (HF4.out.below hb6)
  clear p0 p1 q0 q1 r0 r1 y0 y1 y4 y5 hF1 hF2 hF3 hF4 hZ2 hZ3 hZ4 hb1 hb3 hb4 hb5 hz1 o hC hb6
  go_wp2_with fail
  go_ret
  exact ⟨rfl, HF6.out.2⟩

theorem get_any {w : World} {N : Int} {Az : Option Addr} {lz cz m : Nat} {R : Option Mat} {i j : Int} (h0 : 0 < m) (h7 : m ≤ 7)
    (K : ∀ W, Below w.heap.size w W → Calls Tryz.prog 70 #[zoneV N Az lz cz] W (RetC W m R)) :
    Calls Tryz.prog 29 #[zoneV N Az lz cz, .int .i64 i, .int .i64 j] w (RetI w (getO m R i j)) := by
  cases R with
  | none => exact get_none K
  | some C =>
    unfold getO
    cases k1 : knownB ((m : Int) - 1) i
    · exact get_out1 h0 k1 K
    · cases k2 : knownB ((m : Int) - 1) j
      · exact get_out2 h0 k1 k2 K
      · exact get_in h0 h7 k1 k2 K
end Go.Proofs.YtimckaphmfidhaaGreatDoor

/- The contract of Span: any zone. -/
namespace Go.Proofs.YtimckaphmfidhaaGreatDoor
open Go.RowKit
attribute [local go_sem ↓] Go.wp_at_zero Go.wp_at_succ
/-- The zone's box, and the span's. -/
def Gs (w W : World) (a a' b b' : Value) : Prop := Duo W w.heap.size 28 a a' ∧ Duo W (w.heap.size + 1) 61 b b' ∧ Below w.heap.size w W
theorem Gs.below {w W W1 : World} {a a' b b' : Value} (h : Gs w W a a' b b') (hb : Below W.heap.size W W1) : Gs w W1 a a' b b' := ⟨h.1.below hb, h.2.1.below hb, h.2.2.trans (hb.mono h.2.2.size)⟩
theorem Gs.drew {w W : World} {a a' b b' : Value} (h : Gs w W a a' b b') : Gs w W.drew a a' b b' := ⟨h.1, h.2.1, h.2.2.drew⟩
theorem gs_new (w : World) (a a' b b' : Value) : Gs w ((w.alloc (.cells #[a, a'] 28)).alloc (.cells #[b, b'] 61)) a a' b b' := by
  have h1 := Duo.new (w.alloc (.cells #[a, a'] 28)) 61 b b'
  simp only [World.size_alloc] at h1
  exact ⟨(Duo.new w _ _ _).alloc _, h1, ((Below.refl _ w).alloc (Nat.le_refl _) _).alloc (by simp) _⟩
theorem Gs.put {w W : World} {a a' b b' : Value} (h : Gs w W a a' b b') (x x' : Value) : Gs w ((W.setCell ⟨w.heap.size + 1, 0, none⟩ x).setCell ⟨w.heap.size + 1, 1, none⟩ x') a a' x x' :=
  ⟨(h.1.other (by simp) _).other (by simp) _, (h.2.1.set0 x).set1 x', (h.2.2.setCell (p := ⟨w.heap.size + 1, 0, none⟩) (by simp) _).setCell (p := ⟨w.heap.size + 1, 1, none⟩) (by simp) _⟩
theorem Gs.cells {w W : World} {a a' b b' : Value} (h : Gs w W a a' b b') : W.cell? ⟨w.heap.size, 0, none⟩ = some a ∧ W.cell? ⟨w.heap.size, 1, none⟩ = some a' := ⟨h.1.cell0, h.1.cell1⟩

set_option maxRecDepth 100000 in
set_option maxHeartbeats 1600000 in
theorem zspan_any {m i g cap base : Nat} {C : Mat} (hm7 : m ≤ 7) (h0 : 0 < m) (hi : i < m) (hC : Closed m C) {W : World} (o : W.ownsRow base 3 1 (.slice (some ⟨g, 0, none⟩) (m * m) cap) (m * m) ((flatL m C).map (Value.int .i64))) :
    Calls Tryz.prog 77 #[zoneV ((m : Int) - 1) (some ⟨g, 0, none⟩) (m * m) cap, .int .i64 (i : Int)] W (RetSpan (ofL (-C 0 i) (C i 0)) (ofH (-C 0 i) (C i 0)) W) := by
  have b1 := hC.bd h0 hi
  have b2 := hC.bd hi h0
  have HA : Hid (∀ X, Below W.heap.size W X → Calls Tryz.prog 43 #[zoneV ((m : Int) - 1) (some ⟨g, 0, none⟩) (m * m) cap, .int .i64 0, .int .i64 (i : Int)] X (ZRetInt (C 0 i) X)) := Lib.hid (fun X hb => at_own hm7 h0 hi (own_kept_below o hb))
  have HC : Hid (∀ X, Below W.heap.size W X → Calls Tryz.prog 43 #[zoneV ((m : Int) - 1) (some ⟨g, 0, none⟩) (m * m) cap, .int .i64 (i : Int), .int .i64 0] X (ZRetInt (C i 0) X)) := Lib.hid (fun X hb => at_own hm7 hi h0 (own_kept_below o hb))
  have G0 := Lib.hid (gs_new W (.int .i64 ((m : Int) - 1)) (.slice (some ⟨g, 0, none⟩) (m * m) cap) (.int .i64 0) (.int .i64 0)).drew
  have K0 := Lib.hid G0.out.cells
  have HB0 := Lib.hid G0.out.2.2
  have hw : IntKind.i64.wrap (-C 0 i) = -C 0 i := IntWalk.i64_in _ (by omega)
  generalize C 0 i = x at *
  generalize C i 0 = y at *
  clear o
  go_enter Tryz.func77, Tryz.ntmps77
  go_wp2_with fail
  go_region_held3 (fun w' => w'.cell? ⟨W.heap.size, 0, none⟩ = some (.int .i64 ((m : Int) - 1)) ∧ w'.cell? ⟨W.heap.size, 1, none⟩ = some (.slice (some ⟨g, 0, none⟩) (m * m) cap))
    (first | (with_reducible exact K0.out) | (with_reducible exact K1.out) | (with_reducible exact K2.out) | (with_reducible exact K3.out) | (with_reducible exact K4.out))
    (first
      | (go_at_call 43; ((with_reducible refine (HA.out _ HB0.out).mono ?_); rintro e w1 ⟨rfl, hb1⟩); have G1 := Lib.hid (G0.out.below hb1); have K1 := Lib.hid G1.out.cells; have HB1 := Lib.hid G1.out.2.2)
      | (go_at_call 43; ((with_reducible refine (HC.out _ HB1.out).mono ?_); rintro e w2 ⟨rfl, hb2⟩); have G2 := Lib.hid (G1.out.below hb2); have K2 := Lib.hid G2.out.cells; have HB2 := Lib.hid G2.out.2.2)
      | (go_at_call 112; ((with_reducible refine (of_any _ _ _).mono ?_); rintro e w3 ⟨rfl, hb3⟩); have G3 := Lib.hid (G2.out.below hb3); have K3 := Lib.hid G3.out.cells; have f0 := G3.out.2.1.cell0; have f1 := G3.out.2.1.cell1; have f2 := G3.out.2.1.frozen0; have f3 := G3.out.2.1.frozen1; have G4 := Lib.hid (G3.out.put (.int .i64 (ofL (-x) y)) (.int .i64 (ofH (-x) y))); have K4 := Lib.hid G4.out.cells))
  all_goals go_wp2_with fail
  all_goals exact bodyPost_ret (v := .agg #[.int .i64 (ofL (-x) y), .int .i64 (ofH (-x) y)]) (by simp [results, Tryz.results77, go_sem, G4.out.2.1.cell0, G4.out.2.1.cell1]) rfl ⟨rfl, G4.out.2.2⟩

def spO (m : Nat) (R : Option Mat) (i : Int) : Int × Int :=
  match R with
  | none => (1, 0)
  | some C => if namedB ((m : Int) - 1) i = true then (ofL (-C 0 i.toNat) (C i.toNat 0), ofH (-C 0 i.toNat) (C i.toNat 0)) else (1, 0)
theorem Gs.set {w W : World} {a a' b b' : Value} (h : Gs w W a a' b b') (x x' : Value) : Gs w ((W.setCell ⟨w.heap.size, 0, none⟩ x).setCell ⟨w.heap.size, 1, none⟩ x') x x' b b' :=
  ⟨(h.1.set0 x).set1 x', (h.2.1.other (by simp) _).other (by simp) _, (h.2.2.setCell (p := ⟨w.heap.size, 0, none⟩) (by simp) _).setCell (p := ⟨w.heap.size, 1, none⟩) (by simp) _⟩

set_option maxRecDepth 100000 in
set_option maxHeartbeats 1600000 in
theorem span_none {w : World} {N : Int} {Az : Option Addr} {lz cz m : Nat} {i : Int} 
    (K : ∀ W, Below w.heap.size w W → Calls Tryz.prog 70 #[zoneV N Az lz cz] W (RetC W m none)) :
    Calls Tryz.prog 27 #[zoneV N Az lz cz, .int .i64 i] w (RetSpan (1) (0) w) := by
  have HT := Lib.hid (gs_new w (.int .i64 N) (.slice Az lz cz) (.int .i64 0) (.int .i64 0))
  have HB := Lib.hid HT.out.2.2
  have HK := Lib.hid K
  clear K
  have e0 : rlen m (none : Option Mat) = 0 := rfl
  go_enter Tryz.func27, Tryz.ntmps27
  go_wp2_with (first
    | (go_at_call 70; ((with_reducible refine (HK.out _ HB.out).mono ?_); rintro e w1 ⟨A, c1, rfl, hz1, hb1⟩); have hF1 : Gs w w1 _ _ _ _ := Gs.below HT.out hb1; have y0 := hF1.1.cell0; have y1 := hF1.1.cell1; have y4 := hF1.1.frozen0; have y5 := hF1.1.frozen1)
    | (go_at_call 37; ((with_reducible refine (none_any _ _ _ _ _).mono ?_); rintro e w3 ⟨rfl, hb3⟩); have hF2 := (hF1.set (.int .i64 ((m : Int) - 1)) (.slice A 0 c1)).below hb3; have hZ2 := ((hz1.setCell (a := ⟨w.heap.size, 0, none⟩) (by simp; omega) (.int .i64 ((m : Int) - 1))).setCell (a := ⟨w.heap.size, 1, none⟩) (by simp; omega) (.slice A 0 c1)).below hb3; have p0 := hF2.1.cell0; have p1 := hF2.1.cell1; have p2 := hF2.2.1.cell0; have p3 := hF2.2.1.cell1; have p4 := hF2.2.1.frozen0; have p5 := hF2.2.1.frozen1)
    | (go_at_call 76; ((with_reducible refine (empty_any _).mono ?_); rintro e w5 ⟨rfl, hb5⟩); have hF4 := hF2.below hb5; have r0 := hF4.1.cell0; have r1 := hF4.1.cell1; have r2 := hF4.2.1.cell0; have r3 := hF4.2.1.cell1; have r4 := hF4.2.1.frozen0; have r5 := hF4.2.1.frozen1))
  have hL := hF4.put (.int .i64 (1)) (.int .i64 (0))
  have l0 := hL.2.1.cell0
  have l1 := hL.2.1.cell1
  exact bodyPost_ret (v := .agg #[.int .i64 (1), .int .i64 (0)]) (by simp [results, Tryz.results27, go_sem, l0, l1]) rfl ⟨rfl, hL.2.2⟩

set_option maxRecDepth 100000 in
set_option maxHeartbeats 1600000 in
theorem span_out {w : World} {N : Int} {Az : Option Addr} {lz cz m : Nat} {i : Int} {C : Mat} (h0 : 0 < m) (k1 : namedB ((m : Int) - 1) i = false)
    (K : ∀ W, Below w.heap.size w W → Calls Tryz.prog 70 #[zoneV N Az lz cz] W (RetC W m (some C))) :
    Calls Tryz.prog 27 #[zoneV N Az lz cz, .int .i64 i] w (RetSpan (1) (0) w) := by
  have HT := Lib.hid (gs_new w (.int .i64 N) (.slice Az lz cz) (.int .i64 0) (.int .i64 0))
  have HB := Lib.hid HT.out.2.2
  have HK := Lib.hid K
  clear K
  have e1 : rlen m (some C) = m * m := rfl
  have e2 := sq_pos h0
  go_enter Tryz.func27, Tryz.ntmps27
  go_wp2_with (first
    | (go_at_call 70; ((with_reducible refine (HK.out _ HB.out).mono ?_); rintro e w1 ⟨A, c1, rfl, hz1, hb1⟩); have hF1 : Gs w w1 _ _ _ _ := Gs.below HT.out hb1; have y0 := hF1.1.cell0; have y1 := hF1.1.cell1; have y4 := hF1.1.frozen0; have y5 := hF1.1.frozen1)
    | (go_at_call 37; ((with_reducible refine (none_any _ _ _ _ _).mono ?_); rintro e w3 ⟨rfl, hb3⟩); have hF2 := (hF1.set (.int .i64 ((m : Int) - 1)) (.slice A (m * m) c1)).below hb3; have hZ2 := ((hz1.setCell (a := ⟨w.heap.size, 0, none⟩) (by simp; omega) (.int .i64 ((m : Int) - 1))).setCell (a := ⟨w.heap.size, 1, none⟩) (by simp; omega) (.slice A (m * m) c1)).below hb3; have p0 := hF2.1.cell0; have p1 := hF2.1.cell1; have p2 := hF2.2.1.cell0; have p3 := hF2.2.1.cell1; have p4 := hF2.2.1.frozen0; have p5 := hF2.2.1.frozen1)
    | (go_at_call 75; ((with_reducible refine (named_any _ _ _ _ _ _).mono ?_); rintro e w4 ⟨rfl, hb4⟩); have hF3 := hF2.below hb4; have hZ3 := hZ2.below hb4; have q0 := hF3.1.cell0; have q1 := hF3.1.cell1; have q2 := hF3.2.1.cell0; have q3 := hF3.2.1.cell1; have q4 := hF3.2.1.frozen0; have q5 := hF3.2.1.frozen1)
    | (go_at_call 76; ((with_reducible refine (empty_any _).mono ?_); rintro e w5 ⟨rfl, hb5⟩); have hF4 := hF3.below hb5; have r0 := hF4.1.cell0; have r1 := hF4.1.cell1; have r2 := hF4.2.1.cell0; have r3 := hF4.2.1.cell1; have r4 := hF4.2.1.frozen0; have r5 := hF4.2.1.frozen1))
  have hL := hF4.put (.int .i64 (1)) (.int .i64 (0))
  have l0 := hL.2.1.cell0
  have l1 := hL.2.1.cell1
  exact bodyPost_ret (v := .agg #[.int .i64 (1), .int .i64 (0)]) (by simp [results, Tryz.results27, go_sem, l0, l1]) rfl ⟨rfl, hL.2.2⟩

set_option maxRecDepth 100000 in
set_option maxHeartbeats 1600000 in
theorem span_in {w : World} {N : Int} {Az : Option Addr} {lz cz m : Nat} {i : Int} {C : Mat} (h0 : 0 < m) (h7 : m ≤ 7) (k1 : namedB ((m : Int) - 1) i = true)
    (K : ∀ W, Below w.heap.size w W → Calls Tryz.prog 70 #[zoneV N Az lz cz] W (RetC W m (some C))) :
    Calls Tryz.prog 27 #[zoneV N Az lz cz, .int .i64 i] w (RetSpan (ofL (-C 0 i.toNat) (C i.toNat 0)) (ofH (-C 0 i.toNat) (C i.toNat 0)) w) := by
  have HT := Lib.hid (gs_new w (.int .i64 N) (.slice Az lz cz) (.int .i64 0) (.int .i64 0))
  have HB := Lib.hid HT.out.2.2
  have HK := Lib.hid K
  clear K
  obtain ⟨i0, rfl⟩ : ∃ a : Nat, i = a := ⟨i.toNat, by simp [namedB] at k1; omega⟩
  have hi : i0 < m := by simp [namedB] at k1; omega
  have e3 : ((i0 : Int).toNat) = i0 := by simp
  rw [e3]
  clear e3
  have e1 : rlen m (some C) = m * m := rfl
  have e2 := sq_pos h0
  go_enter Tryz.func27, Tryz.ntmps27
  go_wp2_with (first
    | (go_at_call 70; ((with_reducible refine (HK.out _ HB.out).mono ?_); rintro e w1 ⟨A, c1, rfl, hz1, hb1⟩); have hF1 : Gs w w1 _ _ _ _ := Gs.below HT.out hb1; have y0 := hF1.1.cell0; have y1 := hF1.1.cell1; have y4 := hF1.1.frozen0; have y5 := hF1.1.frozen1)
    | (go_at_call 37; ((with_reducible refine (none_any _ _ _ _ _).mono ?_); rintro e w3 ⟨rfl, hb3⟩); have hF2 := (hF1.set (.int .i64 ((m : Int) - 1)) (.slice A (m * m) c1)).below hb3; have hZ2 := ((hz1.setCell (a := ⟨w.heap.size, 0, none⟩) (by simp; omega) (.int .i64 ((m : Int) - 1))).setCell (a := ⟨w.heap.size, 1, none⟩) (by simp; omega) (.slice A (m * m) c1)).below hb3; have p0 := hF2.1.cell0; have p1 := hF2.1.cell1; have p2 := hF2.2.1.cell0; have p3 := hF2.2.1.cell1; have p4 := hF2.2.1.frozen0; have p5 := hF2.2.1.frozen1)
    | (go_at_call 75; ((with_reducible refine (named_any _ _ _ _ _ _).mono ?_); rintro e w4 ⟨rfl, hb4⟩); have hF3 := hF2.below hb4; have hZ3 := hZ2.below hb4; have q0 := hF3.1.cell0; have q1 := hF3.1.cell1; have q2 := hF3.2.1.cell0; have q3 := hF3.2.1.cell1; have q4 := hF3.2.1.frozen0; have q5 := hF3.2.1.frozen1)
    | (go_at_call 76; ((with_reducible refine (empty_any _).mono ?_); rintro e w5 ⟨rfl, hb5⟩); have hF4 := hF3.below hb5; have r0 := hF4.1.cell0; have r1 := hF4.1.cell1; have r2 := hF4.2.1.cell0; have r3 := hF4.2.1.cell1; have r4 := hF4.2.1.frozen0; have r5 := hF4.2.1.frozen1))
  obtain ⟨g, rfl, hC, o⟩ := zres_some hZ3
  have HF3 := Lib.hid hF3
  refine (zspan_any h7 h0 hi hC o).mono ?_
  rintro e w6 ⟨rfl, hb6⟩
  have hF6 := HF3.out.below hb6
  have r0 := hF6.1.cell0
  have r1 := hF6.1.cell1
  have r2 := hF6.2.1.cell0
  have r3 := hF6.2.1.cell1
  have r4 := hF6.2.1.frozen0
  have r5 := hF6.2.1.frozen1
  have HF6 := Lib.hid hF6
  clear p0 p1 p2 p3 p4 p5 q0 q1 q2 q3 q4 q5 y0 y1 y4 y5 hF1 hF2 hF3 hZ2 hZ3 hb1 hb3 hb4 hz1 o hC hb6 hF6
  go_wp2_with fail
  have hL := HF6.out.put (.int .i64 (ofL (-C 0 i0) (C i0 0))) (.int .i64 (ofH (-C 0 i0) (C i0 0)))
  have l0 := hL.2.1.cell0
  have l1 := hL.2.1.cell1
  exact bodyPost_ret (v := .agg #[.int .i64 (ofL (-C 0 i0) (C i0 0)), .int .i64 (ofH (-C 0 i0) (C i0 0))]) (by simp [results, Tryz.results27, go_sem, l0, l1]) rfl ⟨rfl, hL.2.2⟩

theorem span_any {w : World} {N : Int} {Az : Option Addr} {lz cz m : Nat} {R : Option Mat} {i : Int} (h0 : 0 < m) (h7 : m ≤ 7)
    (K : ∀ W, Below w.heap.size w W → Calls Tryz.prog 70 #[zoneV N Az lz cz] W (RetC W m R)) :
    Calls Tryz.prog 27 #[zoneV N Az lz cz, .int .i64 i] w (RetSpan (spO m R i).1 (spO m R i).2 w) := by
  cases R with
  | none => exact span_none K
  | some C =>
    unfold spO
    cases k1 : namedB ((m : Int) - 1) i
    · exact span_out h0 k1 K
    · exact span_in h0 h7 k1 K
end Go.Proofs.YtimckaphmfidhaaGreatDoor

/- The contracts of Text of the bottom, value, and of the statements' own small functions. -/
namespace Go.Proofs.YtimckaphmfidhaaGreatDoor
open Go.RowKit
attribute [local go_sem ↓] Go.wp_at_zero Go.wp_at_succ

set_option maxRecDepth 100000 in
set_option maxHeartbeats 1600000 in
theorem text_none {w : World} {N : Int} {Az : Option Addr} {lz cz m : Nat}
    (K : ∀ W, Below w.heap.size w W → Calls Tryz.prog 70 #[zoneV N Az lz cz] W (RetC W m none)) :
    Calls Tryz.prog 30 #[zoneV N Az lz cz] w fun e w' => e = .returned (.string ⟨#[98, 111, 116, 116, 111, 109]⟩) ∧ Below w.heap.size w w' := by
  have HT := Lib.hid (gz_new w (.int .i64 N) (.slice Az lz cz))
  have HB := Lib.hid HT.out.2
  have HK := Lib.hid K
  clear K
  have e0 : rlen m (none : Option Mat) = 0 := rfl
  go_enter Tryz.func30, Tryz.ntmps30
  go_wp2_with (first
    | (go_at_call 70; ((with_reducible refine (HK.out _ HB.out).mono ?_); rintro e w1 ⟨A, c1, rfl, hz1, hb1⟩); have hF1 : Gz w w1 _ _ := Gz.below HT.out hb1; have y0 := hF1.1.cell0; have y1 := hF1.1.cell1; have y4 := hF1.1.frozen0; have y5 := hF1.1.frozen1)
    | (go_at_call 37; ((with_reducible refine (none_any _ _ _ _ _).mono ?_); rintro e w3 ⟨rfl, hb3⟩); have hF2 := (hF1.put (.int .i64 ((m : Int) - 1)) (.slice A 0 c1)).below hb3))
  go_ret
  exact ⟨rfl, hF2.2⟩

set_option maxRecDepth 100000 in
theorem few_any (w : World) (N : Int) (A : Option Addr) (len cap : Nat) : Calls Tryz.prog 6 #[zoneV N A len cap] w (RetB w (decide (len ≤ 100))) := by
  have hb := zboxed w (.cells #[.int .i64 N, .slice A len cap] 24)
  by_cases h : len ≤ 100
  · have h1 : decide ((len : Int) ≤ 100) = true := decide_eq_true (by omega)
    rw [decide_eq_true h]
    go_enter Tryz.func6, Tryz.ntmps6
    go_wp2_with fail
    go_ret
    exact ⟨rfl, hb⟩
  · have h1 : decide ((len : Int) ≤ 100) = false := decide_eq_false (by omega)
    rw [decide_eq_false h]
    go_enter Tryz.func6, Tryz.ntmps6
    go_wp2_with fail
    go_ret
    exact ⟨rfl, hb⟩
set_option maxRecDepth 100000 in
theorem of_zone (w : World) (N : Int) (A : Option Addr) (len cap : Nat) : Calls Tryz.prog 10 #[zoneV N A len cap] w fun e w' => e = .returned (zoneV N A len cap) ∧ Below w.heap.size w w' := by
  go_enter Tryz.func10, Tryz.ntmps10
  go_wp2_with fail
  have hb := ((Below.refl _ w).alloc (Nat.le_refl _) (.cells #[.int .i64 N, .slice A len cap] 24)).alloc (by simp) (.cells #[.int .i64 N, .slice A len cap] 28)
  exact bodyPost_ret (v := .agg #[.int .i64 N, .slice A len cap]) (by simp [results, Tryz.results10, go_sem]) rfl ⟨rfl, hb⟩
end Go.Proofs.YtimckaphmfidhaaGreatDoor
