/- The contract of 'alive', which all statements of the zone layer ask. -/
import Derived.Test.YtimckaphmfidhaaGreatDoorGHas
namespace Go.Proofs.YtimckaphmfidhaaGreatDoor
open Go.RowKit
attribute [local go_sem ↓] Go.wp_at_zero Go.wp_at_succ

/-- A zone of two variables. -/
def RetM (C : Mat) (w : World) (e : Ending) (w' : World) : Prop := ∃ A cap, e = .returned (zoneV 2 A 9 cap) ∧ ZRes w' w.heap.size 3 (some C) (zoneV 2 A 9 cap) ∧ Below w.heap.size w w'
theorem retM {C : Mat} {w w' : World} {e : Ending} (h : RetC w 3 (some C) e w') : RetM C w e w' := h
def RetE (w : World) (e : Ending) (w' : World) : Prop := e = .returned (zoneV 2 none 0 0) ∧ Below w.heap.size w w'
theorem retE {w w' : World} {e : Ending} (h : RetC w 3 none e w') : RetE w e w' := by
  obtain ⟨A, cap, rfl, hz, hb⟩ := h
  have hz : zoneV ((3 : Nat) - 1 : Int) A 0 cap = zoneV ((3 : Nat) - 1 : Int) none 0 0 := hz
  refine ⟨?_, hb⟩
  show Ending.returned (zoneV ((3 : Nat) - 1 : Int) A 0 cap) = _
  rw [hz]
  rfl
theorem n_close {w : World} {base : Nat} {C : Mat} {A : Option Addr} {cap : Nat} (hz : ZRes w base 3 (some C) (zoneV 2 A 9 cap)) : Calls Tryz.prog 70 #[zoneV 2 A 9 cap] w (RetC w 3 (some C)) := close_back (m := 3) (R := some C) (by decide) (by decide) hz
theorem e_close (w : World) : Calls Tryz.prog 70 #[zoneV 2 none 0 0] w (RetC w 3 none) := close_back (m := 3) (R := none) (base := 0) (by decide) (by decide) (rfl : zoneV 2 none 0 0 = zoneV 2 none 0 0)
theorem n_top (w : World) : Calls Tryz.prog 26 #[.int .i64 2] w (RetM far w) := (top_any 3 (by decide) (by decide) w).mono fun _ _ h => retM h
theorem n_guard1 {w : World} {base : Nat} {A : Option Addr} {cap : Nat} (hz : ZRes w base 3 (some far) (zoneV 2 A 9 cap)) : Calls Tryz.prog 25 #[zoneV 2 A 9 cap, .int .i64 1, .int .i64 0, .int .i64 5] w (RetM (rowsM 3 A1) w) :=
  (guard_any (m := 3) (by decide) (by decide) (by decide) (fun _ hW => n_close (hz.below hW))).mono fun _ _ h => retM (retC_congr h a1_same)
theorem n_guard2 {w : World} {base : Nat} {A : Option Addr} {cap : Nat} (hz : ZRes w base 3 (some (rowsM 3 A1)) (zoneV 2 A 9 cap)) : Calls Tryz.prog 25 #[zoneV 2 A 9 cap, .int .i64 2, .int .i64 1, .int .i64 (-3)] w (RetM (rowsM 3 A2) w) :=
  (guard_any (m := 3) (by decide) (by decide) (by decide) (fun _ hW => n_close (hz.below hW))).mono fun _ _ h => retM (retC_congr h a2_same)
theorem n_guard3 {w : World} {base : Nat} {A : Option Addr} {cap : Nat} (hz : ZRes w base 3 (some (rowsM 3 A2)) (zoneV 2 A 9 cap)) : Calls Tryz.prog 25 #[zoneV 2 A 9 cap, .int .i64 0, .int .i64 1, .int .i64 (-6)] w (RetE w) :=
  (guard_any (m := 3) (by decide) (by decide) (by decide) (fun _ hW => n_close (hz.below hW))).mono fun _ _ h => retE (by rw [a3_none] at h; exact h)
theorem n_span {w : World} {base : Nat} {A : Option Addr} {cap : Nat} (hz : ZRes w base 3 (some (rowsM 3 A2)) (zoneV 2 A 9 cap)) : Calls Tryz.prog 27 #[zoneV 2 A 9 cap, .int .i64 2] w (RetSpan (-1152921504606846976) 2 w) := by
  have h := span_any (m := 3) (i := 2) (by decide) (by decide) (fun _ hW => n_close (hz.below hW))
  rw [a2_span] at h
  exact h
theorem n_get {w : World} {base : Nat} {A : Option Addr} {cap : Nat} (hz : ZRes w base 3 (some (rowsM 3 A2)) (zoneV 2 A 9 cap)) : Calls Tryz.prog 29 #[zoneV 2 A 9 cap, .int .i64 2, .int .i64 1] w (RetI w (-3)) := by
  have h := get_any (m := 3) (i := 2) (j := 1) (by decide) (by decide) (fun _ hW => n_close (hz.below hW))
  rw [a2_get] at h
  exact h
theorem n_text (w : World) : Calls Tryz.prog 30 #[zoneV 2 none 0 0] w fun e w' => e = .returned (.string ⟨#[98, 111, 116, 116, 111, 109]⟩) ∧ Below w.heap.size w w' := text_none (m := 3) (fun W _ => e_close W)
theorem n_right {w : World} {base : Nat} {A : Option Addr} {cap : Nat} (hz : ZRes w base 3 (some (rowsM 3 A2)) (zoneV 2 A 9 cap)) (hb : base ≤ w.heap.size) : Calls Tryz.prog 28 #[zoneV 2 A 9 cap] w (RetB w true) := by
  have h := right_right (m := 3) (R := some (rowsM 3 A2)) (by decide) (by decide) hz hb (fun _ hW => n_close (hz.below hW))
  rw [show sameO 3 3 (some (rowsM 3 A2)) (some (rowsM 3 A2)) = true by decide +kernel] at h
  exact h
theorem n_same0 (w : World) : Calls Tryz.prog 31 #[zoneV 2 none 0 0, zoneV 2 none 0 0] w (RetB w true) := same_any (ma := 3) (mb := 3) (Ra := none) (Rb := none) (by decide) (by decide) (fun W _ => e_close W) (fun W _ => e_close W)
theorem n_bottom (w : World) : Calls Tryz.prog 32 #[.int .i64 2] w (RetE w) := (bottom_any 2 w).mono fun _ _ h => h
theorem n_leq {w : World} {base : Nat} {A : Option Addr} {cap : Nat} (hz : ZRes w base 3 (some (rowsM 3 A2)) (zoneV 2 A 9 cap)) : Calls Tryz.prog 14 #[zoneV 2 none 0 0, zoneV 2 A 9 cap] w (RetB w true) :=
  leq_any (ma := 3) (mb := 3) (Ra := none) (Rb := some (rowsM 3 A2)) (by decide) (by decide) (fun _ hW => two_of (fun W _ => e_close W) (fun _ hV => n_close ((hz.below hW).below hV)))
theorem n_join {w : World} {base : Nat} {A : Option Addr} {cap : Nat} (hz : ZRes w base 3 (some (rowsM 3 A2)) (zoneV 2 A 9 cap)) : Calls Tryz.prog 34 #[zoneV 2 none 0 0, zoneV 2 A 9 cap] w (RetM (rowsM 3 A2) w) :=
  (join_any (ma := 3) (mb := 3) (Ra := none) (Rb := some (rowsM 3 A2)) (by decide) (by decide) (fun _ hW => two_of (fun W _ => e_close W) (fun _ hV => n_close ((hz.below hW).below hV)))).mono fun _ _ h => retM h
theorem n_same1 {w : World} {base base2 : Nat} {A B : Option Addr} {cap d : Nat} (hz : ZRes w base 3 (some (rowsM 3 A2)) (zoneV 2 A 9 cap)) (hy : ZRes w base2 3 (some (rowsM 3 A2)) (zoneV 2 B 9 d)) : Calls Tryz.prog 31 #[zoneV 2 B 9 d, zoneV 2 A 9 cap] w (RetB w true) := by
  have h := same_any (ma := 3) (mb := 3) (w := w) (by decide) (by decide) (fun _ hW => n_close (hy.below hW)) (fun _ hW => n_close (hz.below hW))
  rw [show sameO 3 3 (some (rowsM 3 A2)) (some (rowsM 3 A2)) = true by decide +kernel] at h
  exact h
theorem n_has {w : World} {base b : Nat} {A : Option Addr} {cap : Nat} (hz : ZRes w base 3 (some (rowsM 3 A2)) (zoneV 2 A 9 cap)) (hb : b < w.heap.size) (c0 : w.cell? ⟨b, 0, none⟩ = some (.int .i64 5)) (c1 : w.cell? ⟨b, 1, none⟩ = some (.int .i64 2)) :
    Calls Tryz.prog 33 #[zoneV 2 A 9 cap, .slice (some ⟨b, 0, none⟩) 2 2] w (RetB w true) := by
  have h := has_pts (m := 3) (n := 2) (f := fun k => if k = 0 then 5 else 2) (w := w) (b := b) (off := 0) (cap := 2) (by decide) (by decide) (by decide) hb (fun k hk => by
    rcases Nat.lt_or_ge k 1 with h | h
    · obtain rfl : k = 0 := by omega
      exact c0
    · obtain rfl : k = 1 := by omega
      exact c1) rfl (by decide +kernel) (fun _ hW => n_close (hz.below hW))
  rw [a2_has] at h
  exact h

/-- Both boxes, and the row of the first. -/
def Al (w : World) (base zb eb : Nat) (A : Option Addr) (c : Nat) (W : World) : Prop := ZRes W base 3 (some (rowsM 3 A2)) (zoneV 2 A 9 c) ∧ Duo W zb 28 (.int .i64 2) (.slice A 9 c) ∧ Duo W eb 28 (.int .i64 2) (.slice none 0 0) ∧ Below w.heap.size w W ∧ base ≤ W.heap.size
theorem Al.below {w W W1 : World} {base zb eb c : Nat} {A : Option Addr} (h : Al w base zb eb A c W) (hb : Below W.heap.size W W1) : Al w base zb eb A c W1 := ⟨h.1.below hb, h.2.1.below hb, h.2.2.1.below hb, h.2.2.2.1.trans (hb.mono h.2.2.2.1.size), Nat.le_trans h.2.2.2.2 hb.size⟩
theorem Al.cells {w W : World} {base zb eb c : Nat} {A : Option Addr} (h : Al w base zb eb A c W) : W.cell? ⟨zb, 0, none⟩ = some (.int .i64 2) ∧ W.cell? ⟨zb, 1, none⟩ = some (.slice A 9 c) ∧ W.cell? ⟨eb, 0, none⟩ = some (.int .i64 2) ∧ W.cell? ⟨eb, 1, none⟩ = some (.slice none 0 0) := ⟨h.2.1.cell0, h.2.1.cell1, h.2.2.1.cell0, h.2.2.1.cell1⟩

set_option maxRecDepth 100000 in
set_option maxHeartbeats 3200000 in
theorem alive_any (w : World) : Calls Tryz.prog 7 #[] w (RetB w true) := by
  go_enter Tryz.func7, Tryz.ntmps7
  go_wp2_with (first
    | (go_at_call 26; ((with_reducible refine (n_top _).mono ?_); rintro e w1 ⟨A1, c1, rfl, hz1, hb1⟩); have HZ1 := Lib.hid hz1; clear hz1)
    | (go_at_call 25; ((with_reducible refine (n_guard1 HZ1.out).mono ?_); rintro e w2 ⟨A2, c2, rfl, hz2, hb2⟩); have HZ2 := Lib.hid hz2; have HB2 := Lib.hid (hb1.trans (hb2.mono hb1.size)); clear hz2 hb1 hb2)
    | (go_at_call 25; ((with_reducible refine (n_guard2 HZ2.out).mono ?_); rintro e w3 ⟨A3, c3, rfl, hz3, hb3⟩); have HZ3 := Lib.hid (hz3.below (zboxed w3 (.cells #[.int .i64 2, .slice A3 9 c3] 28))); have HD3 := Lib.hid (Duo.new w3 28 (.int .i64 2) (.slice A3 9 c3)); have HB3 := Lib.hid ((HB2.out.trans (hb3.mono HB2.out.size)).trans ((zboxed w3 (.cells #[.int .i64 2, .slice A3 9 c3] 28)).mono (HB2.out.trans (hb3.mono HB2.out.size)).size)); have HS3 := Lib.hid (show w2.heap.size ≤ (w3.alloc (.cells #[.int .i64 2, .slice A3 9 c3] 28)).heap.size from Nat.le_trans hb3.size (zboxed w3 (.cells #[.int .i64 2, .slice A3 9 c3] 28)).size); clear hz3 hb3)
    | (go_at_call 25; ((with_reducible refine (n_guard3 HZ3.out).mono ?_); rintro e w4 ⟨rfl, hb4⟩); have HZ4 := Lib.hid ((HZ3.out.below hb4).below (zboxed w4 (.cells #[.int .i64 2, .slice none 0 0] 28))); have HD4 := Lib.hid ((HD3.out.below hb4).below (zboxed w4 (.cells #[.int .i64 2, .slice none 0 0] 28))); have HE4 := Lib.hid (Duo.new w4 28 (.int .i64 2) (.slice none 0 0)); have HB4 := Lib.hid ((HB3.out.trans (hb4.mono HB3.out.size)).trans ((zboxed w4 (.cells #[.int .i64 2, .slice none 0 0] 28)).mono (HB3.out.trans (hb4.mono HB3.out.size)).size)); have HS4 := Lib.hid (show w2.heap.size ≤ (w4.alloc (.cells #[.int .i64 2, .slice none 0 0] 28)).heap.size from Nat.le_trans (Nat.le_trans HS3.out hb4.size) (zboxed w4 (.cells #[.int .i64 2, .slice none 0 0] 28)).size); clear hb4))
  have Lx0 : Hid (Al w w2.heap.size w3.heap.size w4.heap.size A3 c3 (w4.alloc (.cells #[.int .i64 2, .slice none 0 0] 28)).drew) := Lib.hid (Al.below (W := (w4.alloc (.cells #[.int .i64 2, .slice none 0 0] 28))) ⟨HZ4.out, HD4.out, HE4.out, HB4.out, HS4.out⟩ (Below.refl _ _).drew)
  have Kx0 := Lib.hid Lx0.out.cells
  have Zx0 := Lib.hid Lx0.out.1
  clear HZ1 HZ2 HZ3 HZ4 HD3 HD4 HE4 HB2 HB3 HB4 HS4
  go_region_held3 (fun w' => w'.cell? ⟨w3.heap.size, 0, none⟩ = some (.int .i64 2) ∧ w'.cell? ⟨w3.heap.size, 1, none⟩ = some (.slice A3 9 c3) ∧ w'.cell? ⟨w4.heap.size, 0, none⟩ = some (.int .i64 2) ∧ w'.cell? ⟨w4.heap.size, 1, none⟩ = some (.slice none 0 0))
    (first | (with_reducible exact Kx0.out) | (with_reducible exact Kx1.out) | (with_reducible exact Kx2.out) | (with_reducible exact Kx3.out) | (with_reducible exact Kx4.out) | (with_reducible exact Kx5.out) | (with_reducible exact Kx6.out) | (with_reducible exact Kx7.out) | (with_reducible exact Kx8.out) | (with_reducible exact Kx9.out) | (with_reducible exact Kxa.out) | (with_reducible exact Kxb.out))
    (first
    | (go_at_call 27; ((with_reducible refine (n_span Zx0.out).mono ?_); rintro e x1 ⟨rfl, hx1⟩); have Lx1 := Lib.hid (Lx0.out.below hx1); have Kx1 := Lib.hid Lx1.out.cells; have Zx1 := Lib.hid Lx1.out.1; have Sx1 := Lib.hid Lx1.out.2.2.2.2)
    | (go_at_call 28; ((with_reducible refine (n_right Zx1.out Sx1.out).mono ?_); rintro e x2 ⟨rfl, hx2⟩); have Lx2 := Lib.hid (Lx1.out.below hx2); have Kx2 := Lib.hid Lx2.out.cells; have Zx2 := Lib.hid Lx2.out.1; have Sx2 := Lib.hid Lx2.out.2.2.2.2)
    | (go_at_call 29; ((with_reducible refine (n_get Zx2.out).mono ?_); rintro e x3 ⟨rfl, hx3⟩); have Lx3 := Lib.hid (Lx2.out.below hx3); have Kx3 := Lib.hid Lx3.out.cells; have Zx3 := Lib.hid Lx3.out.1; have Sx3 := Lib.hid Lx3.out.2.2.2.2)
    | (go_at_call 30; ((with_reducible refine (n_text _).mono ?_); rintro e x4 ⟨rfl, hx4⟩); have Lx4 := Lib.hid (Lx3.out.below hx4); have Kx4 := Lib.hid Lx4.out.cells; have Zx4 := Lib.hid Lx4.out.1; have Sx4 := Lib.hid Lx4.out.2.2.2.2)
    | (go_at_call 32; ((with_reducible refine (n_bottom _).mono ?_); rintro e x5 ⟨rfl, hx5⟩); have Lx5 := Lib.hid (Lx4.out.below hx5); have Kx5 := Lib.hid Lx5.out.cells; have Zx5 := Lib.hid Lx5.out.1; have Sx5 := Lib.hid Lx5.out.2.2.2.2)
    | (go_at_call 31; ((with_reducible refine (n_same0 _).mono ?_); rintro e x6 ⟨rfl, hx6⟩); have Lx6 := Lib.hid (Lx5.out.below hx6); have Kx6 := Lib.hid Lx6.out.cells; have Zx6 := Lib.hid Lx6.out.1; have Sx6 := Lib.hid Lx6.out.2.2.2.2; have Lx7 := Lib.hid (Lx6.out.below (zboxed x6 (.cells #[.int .i64 5, .int .i64 2] 3))); have Kx7 := Lib.hid Lx7.out.cells; have Zx7 := Lib.hid Lx7.out.1; have Dx7 := Duo.new x6 3 (.int .i64 5) (.int .i64 2); have Cx7 := Lib.hid (n_has (b := x6.heap.size) Zx7.out Dx7.lt Dx7.cell0 Dx7.cell1))
    | (go_at_call 33; ((with_reducible refine (Cx7.out).mono ?_); rintro e x8 ⟨rfl, hx8⟩); have Lx8 := Lib.hid (Lx7.out.below hx8); have Kx8 := Lib.hid Lx8.out.cells; have Zx8 := Lib.hid Lx8.out.1; have Sx8 := Lib.hid Lx8.out.2.2.2.2)
    | (go_at_call 14; ((with_reducible refine (n_leq Zx8.out).mono ?_); rintro e x9 ⟨rfl, hx9⟩); have Lx9 := Lib.hid (Lx8.out.below hx9); have Kx9 := Lib.hid Lx9.out.cells; have Zx9 := Lib.hid Lx9.out.1; have Sx9 := Lib.hid Lx9.out.2.2.2.2)
    | (go_at_call 34; ((with_reducible refine (n_join Zx9.out).mono ?_); rintro e xa ⟨B, d, rfl, hza, hxa⟩); have Lxa := Lib.hid (Lx9.out.below hxa); have Kxa := Lib.hid Lxa.out.cells; have Zxa := Lib.hid Lxa.out.1; have Sxa := Lib.hid Lxa.out.2.2.2.2; have Ya := Lib.hid hza)
    | (go_at_call 31; ((with_reducible refine (n_same1 Zxa.out Ya.out).mono ?_); rintro e xb ⟨rfl, hxb⟩); have Lxb := Lib.hid (Lxa.out.below hxb); have Kxb := Lib.hid Lxb.out.cells; have Zxb := Lib.hid Lxb.out.1; have Sxb := Lib.hid Lxb.out.2.2.2.2))
  all_goals go_wp2_with fail
  all_goals go_ret
  all_goals exact ⟨rfl, Lxb.out.2.2.2.1⟩
end Go.Proofs.YtimckaphmfidhaaGreatDoor
