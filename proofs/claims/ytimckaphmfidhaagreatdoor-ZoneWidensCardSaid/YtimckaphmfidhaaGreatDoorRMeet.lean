/- The contracts of the document's Meet and Join, of right zones of one N; and the law's same. -/
import Derived.Test.YtimckaphmfidhaaGreatDoorRWith
import Derived.Test.YtimckaphmfidhaaGreatDoorGMoves
import Derived.Test.YtimckaphmfidhaaGreatDoorGSets
import Derived.BigRegion
import Derived.Deep.RegionHeld3
import Derived.Deep.LoopGhost
namespace Go.Proofs.YtimckaphmfidhaaGreatDoor
open Go.RowKit
attribute [local go_sem ↓] Go.wp_at_zero Go.wp_at_succ

/-- Bounds in the range. -/
def Bd (m : Nat) (E : Mat) : Prop := ∀ i j, i < m → j < m → -2305843009213693952 ≤ E i j ∧ E i j ≤ 2305843009213693952
theorem near_bd {m : Nat} {E : Mat} (h : Bd m E) : Same m (nearM m (fl m E)) E := by
  intro i j hi hj
  have hb := h i j hi hj
  show nearZ (E ((i * m + j) / m) ((i * m + j) % m)) = E i j
  rw [Nat.mul_comm i m, Nat.mul_add_div (by omega), Nat.mul_add_mod, Nat.div_eq_of_lt hj, Nat.mod_eq_of_lt hj, Nat.add_zero]
  rcases nearZ_cases (E i j) with q | q | q <;> omega
theorem RZ.arg {W : World} {m g c base : Nat} {E : Mat} (h : RZ m g c E base W) (h7 : m ≤ 7) : ZArg W (zoneV ((m : Int) - 1) (some ⟨g, 0, none⟩) (m * m) c) ((m : Int) - 1) (m * m) (fl m E) := by
  have hlen : m * m ≤ c := by
    rcases h.row.2 with ⟨h1, _⟩ | ⟨g', cap', cur, h1, _, _, h4, _⟩
    · simp at h1
    · simp only [Value.slice.injEq] at h1; omega
  refine ⟨_, c, rfl, hlen, ?_, fun _ => ⟨g, 0, rfl, (h.row.lt g rfl).2, fun j hj => ?_⟩⟩
  · have : m * m ≤ 7 * 7 := Nat.mul_le_mul h7 h7
    omega
  · rw [Nat.zero_add, h.row.cellAt j (by omega), List.getElem?_map, fl_at E hj]
    rfl
theorem zr_bd {m : Nat} {E : Mat} (h0 : 0 < m) (h7 : m ≤ 7) (h : Bd m E) : SameO m (zr ((m : Int) - 1) (m * m) (fl m E)) (setR m E) := by
  obtain ⟨e1, e2⟩ := zm_of h0 h7
  have hs := near_bd h
  unfold zr setR
  rw [e1, e2]
  cases ha : aliveB m (nearM m (fl m E))
  · have hb : aliveB m E = false := by
      cases hb : aliveB m E
      · rfl
      · have := (aliveB_iff _ _).2 (alive_congr (cap_congr (same_symm hs)) ((aliveB_iff _ _).1 hb))
        rw [ha] at this
        cases this
    rw [hb]
    simp [SameO]
  · have hb : aliveB m E = true := (aliveB_iff _ _).2 (alive_congr (cap_congr hs) ((aliveB_iff _ _).1 ha))
    rw [hb]
    simp
    exact lev_congr (cap_congr hs) m (Nat.le_refl _)
/-- The document's Close, of bounds in the range. -/
theorem rclose_rz {W : World} {m g c base : Nat} {E : Mat} (h0 : 0 < m) (h7 : m ≤ 7) (hE : Bd m E) (h : RZ m g c E base W) : Calls Tryz.prog 35 #[zoneV ((m : Int) - 1) (some ⟨g, 0, none⟩) (m * m) c] W (RetC W m (setR m E)) := by
  have := rclose_z (h.arg h7)
  rw [(zm_of h0 h7).2] at this
  exact this.mono fun _ _ hr => retC_congr hr (zr_bd h0 h7 hE)
/-- How far Meet has come. -/
def mst (C D : Mat) (i j : Nat) : Mat := fun a b => if a < i ∨ (a = i ∧ b < j) then min (C a b) (D a b) else C a b
theorem mst_step (C D : Mat) (i j : Nat) : grd (mst C D i j) i j (D i j) = mst C D i (j + 1) := by
  funext a b
  unfold grd upd
  by_cases e : a = i ∧ b = j
  · obtain ⟨rfl, rfl⟩ := e
    rw [if_pos ⟨rfl, rfl⟩]
    unfold mst
    rw [if_neg (by omega), if_pos (by omega)]
  · rw [if_neg e]
    unfold mst
    by_cases h : a < i ∨ (a = i ∧ b < j)
    · rw [if_pos h, if_pos (by omega)]
    · rw [if_neg h, if_neg (by omega)]
theorem mst_row {m : Nat} (C D : Mat) (i : Nat) : Same m (mst C D i m) (mst C D (i + 1) 0) := fun a b _ hb => by
  unfold mst
  by_cases h : a < i ∨ (a = i ∧ b < m)
  · rw [if_pos h, if_pos (by omega)]
  · rw [if_neg h, if_neg (by omega)]
theorem mst_all {m : Nat} (C D : Mat) : Same m (mst C D m 0) (minM C D) := fun a b ha _ => by
  unfold mst
  rw [if_pos (by omega)]
  rfl
theorem mst_zero (C D : Mat) : mst C D 0 0 = C := by
  funext a b
  unfold mst
  rw [if_neg (by omega)]
/-- While Meet goes: the four boxes, the new row, the second zone's row. -/
structure MT (w : World) (m go co gb cb : Nat) (E D : Mat) (v : Value) (W : World) : Prop where
  low : Below w.heap.size w W
  za : Duo W w.heap.size 24 (.int .i64 ((m : Int) - 1)) v
  zb : Duo W (w.heap.size + 1) 24 (.int .i64 ((m : Int) - 1)) (.slice (some ⟨gb, 0, none⟩) (m * m) cb)
  zr : Duo W (w.heap.size + 2) 24 (.int .i64 0) (.slice none 0 0)
  zo : Duo W (w.heap.size + 3) 24 (.int .i64 ((m : Int) - 1)) (.slice (some ⟨go, 0, none⟩) (m * m) co)
  rowE : RZ m go co E 0 W
  rowD : RP m gb cb D W
section
variable {w W W1 : World} {m go co gb cb : Nat} {E D E' : Mat} {v : Value}
theorem MT.below (h : MT w m go co gb cb E D v W) (hb : Below W.heap.size W W1) : MT w m go co gb cb E D v W1 := ⟨h.low.trans (hb.mono h.low.size), h.za.below hb, h.zb.below hb, h.zr.below hb, h.zo.below hb, h.rowE.below hb, h.rowD.below hb⟩
theorem MT.congr (h : MT w m go co gb cb E D v W) (he : Same m E E') : MT w m go co gb cb E' D v W := ⟨h.low, h.za, h.zb, h.zr, h.zo, ⟨by rw [← flat_congr he]; exact h.rowE.row⟩, h.rowD⟩
theorem MT.s (h : MT w m go co gb cb E D v W) : W.cell? ⟨w.heap.size + 3, 0, none⟩ = some (.int .i64 ((m : Int) - 1)) ∧ W.cell? ⟨w.heap.size + 3, 1, none⟩ = some (.slice (some ⟨go, 0, none⟩) (m * m) co) ∧ W.cell? ⟨w.heap.size + 1, 0, none⟩ = some (.int .i64 ((m : Int) - 1)) ∧ W.cell? ⟨w.heap.size + 1, 1, none⟩ = some (.slice (some ⟨gb, 0, none⟩) (m * m) cb) := ⟨h.zo.cell0, h.zo.cell1, h.zb.cell0, h.zb.cell1⟩
theorem MT.put {g5 c5 : Nat} {E5 : Mat} {base : Nat} (h : MT w m go co gb cb E D v W) (hr : RZ m g5 c5 E5 base W) : MT w m g5 c5 gb cb E5 D v ((W.setCell ⟨w.heap.size + 3, 0, none⟩ (.int .i64 ((m : Int) - 1))).setCell ⟨w.heap.size + 3, 1, none⟩ (.slice (some ⟨g5, 0, none⟩) (m * m) c5)) :=
  ⟨(h.low.setCell (p := ⟨w.heap.size + 3, 0, none⟩) (by show w.heap.size ≤ w.heap.size + 3; omega) _).setCell (p := ⟨w.heap.size + 3, 1, none⟩) (by show w.heap.size ≤ w.heap.size + 3; omega) _,
    (h.za.other (by show w.heap.size ≠ w.heap.size + 3; omega) _).other (by show w.heap.size ≠ w.heap.size + 3; omega) _, (h.zb.other (by show w.heap.size + 1 ≠ w.heap.size + 3; omega) _).other (by show w.heap.size + 1 ≠ w.heap.size + 3; omega) _,
    (h.zr.other (by show w.heap.size + 2 ≠ w.heap.size + 3; omega) _).other (by show w.heap.size + 2 ≠ w.heap.size + 3; omega) _, (h.zo.set0 _).set1 _, ⟨own_lower (row_put h.zo hr.row _ _) (Nat.zero_le _)⟩, ⟨row_put h.zo h.rowD.row _ _⟩⟩
end
section
variable {w : World} {m : Nat} {A B : Option Addr} {ba bb ca cb : Nat}
set_option maxRecDepth 100000 in
set_option maxHeartbeats 6400000 in
theorem rmeet_pts {C D : Mat} (h0 : 0 < m) (h7 : m ≤ 7) (ha : ZRes w ba m (some C) (zoneV ((m : Int) - 1) A (rlen m (some C)) ca)) (hb : ZRes w bb m (some D) (zoneV ((m : Int) - 1) B (rlen m (some D)) cb)) :
    Calls Tryz.prog 62 #[zoneV ((m : Int) - 1) A (rlen m (some C)) ca, zoneV ((m : Int) - 1) B (rlen m (some D)) cb] w (RetC w m (setR m (minM C D))) := by
  obtain ⟨ga, rfl, pa, hC⟩ := rp_of ha
  obtain ⟨gb, rfl, pb, hD⟩ := rp_of hb
  have e0 : rlen m (some C) = m * m := rfl
  have e1 : rlen m (some D) = m * m := rfl
  rw [e0, e1]
  obtain ⟨W2, hW2, k0, k1, hb2, hs2⟩ := two_boxes_r w (.int .i64 ((m : Int) - 1)) (.slice (some ⟨ga, 0, none⟩) (m * m) ca) (.int .i64 ((m : Int) - 1)) (.slice (some ⟨gb, 0, none⟩) (m * m) cb)
  obtain ⟨W4, hW4, k2, k3, hb4, hs4⟩ := two_boxes_r W2 (.int .i64 0) (.slice none 0 0) (.int .i64 ((m : Int) - 1)) (.slice (some ⟨ga, 0, none⟩) (m * m) ca)
  rw [hs2] at k2 k3
  have HM : Hid (MT w m ga ca gb cb (mst C D 0 0) D (.slice (some ⟨ga, 0, none⟩) (m * m) ca) W4) := Lib.hid ⟨hb2.trans (hb4.mono hb2.size), k0.below hb4, k1.below hb4, k2, k3, by rw [mst_zero]; exact ⟨own_lower ((pa.below hb2).below hb4).row (Nat.zero_le _)⟩, (pb.below hb2).below hb4⟩
  have HB : Hid (Bd m (minM C D)) := Lib.hid fun i j hi hj => by
    have h1 := hC.bd hi hj
    have h2 := hD.bd hi hj
    unfold minM
    omega
  have HDb := Lib.hid (fun i j (hi : i < m) (hj : j < m) => hD.bd hi hj)
  have H0 := Lib.hid h0
  have H7 := Lib.hid h7
  have k0' := k0.cell0
  have k1' := k0.cell1
  have k2' := k0.lt
  have k3' := k1.cell0
  have k4' := k1.cell1
  have k5' := k1.lt
  have l0 := (k0.alloc (.cells #[.int .i64 0, .slice none 0 0] 24)).cell0
  have l1 := (k0.alloc (.cells #[.int .i64 0, .slice none 0 0] 24)).cell1
  have l2 := (k1.alloc (.cells #[.int .i64 0, .slice none 0 0] 24)).cell0
  have l3 := (k1.alloc (.cells #[.int .i64 0, .slice none 0 0] 24)).cell1
  have q0 : (((m * m : Nat) : Int) == 0) = false := by have := Nat.mul_pos h0 h0; simp; omega
  have q1 : decide (m * m = 0) = false := decide_eq_false (by have := Nat.mul_pos h0 h0; omega)
  have q3 : ((m : Int) * (m : Int) == 0) = false := by rw [← Int.natCast_mul]; exact q0
  have q4 : decide ((m : Int) * (m : Int) = 0) = false := by rw [← Int.natCast_mul]; exact decide_eq_false (by have := Nat.mul_pos h0 h0; omega)
  clear ha hb pa pb hC hD k0 k1 k2 k3 hb2 hb4 h0
  go_enter Tryz.func62, Tryz.ntmps62
  go_wp2_with fail
  clear k0' k1' k2' k3' k4' k5' l0 l1 l2 l3
  go_loopg [6] m (fun gk s wr => ∃ i go co : Nat, i + gk = m ∧ s = .int .i64 (i : Int) ∧ MT w m go co gb cb (mst C D i 0) D (.slice (some ⟨ga, 0, none⟩) (m * m) ca) wr)
  case atStart => exact ⟨0, ga, ca, by omega, rfl, HM.out⟩
  case round =>
    rename Nat => g0
    obtain ⟨i, go, co, hi', rfl, hM⟩ := hrel
    have HI := Lib.hid hi'
    have M := Lib.hid hM
    clear hi' hM HM
    have a0 := M.out.za.cell0
    have a1 := M.out.za.lt
    by_cases him : i < m
    · have d4 : decide ((i : Int) ≤ (m : Int) - 1) = true := decide_eq_true (by omega)
      go_wp2_with fail
      clear a0 a1
      go_loopg [7] m (fun gk s wr => ∃ j go co : Nat, j + gk = m ∧ s = .int .i64 (j : Int) ∧ MT w m go co gb cb (mst C D i j) D (.slice (some ⟨ga, 0, none⟩) (m * m) ca) wr)
      case atStart => exact ⟨0, go, co, by omega, rfl, M.out⟩
      case round =>
        rename Nat => g1
        clear M
        obtain ⟨j, go, co, hj', rfl, hM⟩ := hrel
        have HJ := Lib.hid hj'
        have M := Lib.hid hM
        clear hj' hM
        have a0 := M.out.za.cell0
        have a1 := M.out.za.lt
        by_cases hjm : j < m
        · have d5 : decide ((j : Int) ≤ (m : Int) - 1) = true := decide_eq_true (by omega)
          have wj : IntKind.i64.wrap ((j : Int) + 1) = (j : Int) + 1 := IntWalk.i64_in _ (by have := H7.out; omega)
          have HG : Hid (∀ W go co, MT w m go co gb cb (mst C D i j) D (.slice (some ⟨ga, 0, none⟩) (m * m) ca) W → Calls Tryz.prog 50 #[zoneV ((m : Int) - 1) (some ⟨gb, 0, none⟩) (m * m) cb, .int .i64 (i : Int), .int .i64 (j : Int)] W (RetI W (D i j))) := Lib.hid fun W go co h => rget_in H7.out h.rowD him hjm
          have HWi : Hid (∀ W go co, MT w m go co gb cb (mst C D i j) D (.slice (some ⟨ga, 0, none⟩) (m * m) ca) W → Calls Tryz.prog 49 #[zoneV ((m : Int) - 1) (some ⟨go, 0, none⟩) (m * m) co, .int .i64 (i : Int), .int .i64 (j : Int), .int .i64 (D i j)] W (RetRZ W m (mst C D i (j + 1)))) := Lib.hid fun W go co h => by
            rw [← mst_step]
            exact rwith_any H0.out H7.out him hjm h.rowE
          obtain ⟨y, hy⟩ : ∃ y, D i j = y := ⟨_, rfl⟩
          rw [hy] at HG HWi
          clear hy
          have MD := Lib.hid (M.out.below (Below.refl _ _).drew)
          go_wp2_with fail
          have x0 := MD.out.zo.cell0
          have x1 := MD.out.zo.cell1
          have x2 := MD.out.zb.cell0
          have x3 := MD.out.zb.cell1
          go_region_with (first
            | (go_at_call 50; ((with_reducible refine (HG.out _ _ _ MD.out).mono ?_); rintro e w6 ⟨rfl, hb6⟩); have M6 := Lib.hid (MD.out.below hb6); have z0 := M6.out.zo.cell0; have z1 := M6.out.zo.cell1; clear hb6)
            | (go_at_call 49; ((with_reducible refine (HWi.out _ _ _ M6.out).mono ?_); rintro e w7 ⟨g7, c7, rfl, hr7, hb7⟩); have M7 := Lib.hid (M6.out.below hb7); have R7 := Lib.hid hr7; have b0 := M7.out.zo.frozen0; have b1 := M7.out.zo.frozen1; have b2 := M7.out.zo.lt; have b3 := M7.out.zo.cell0; have b4 := M7.out.zo.cell1; clear hb7 hr7))
          all_goals go_wp2_with fail
          all_goals
            have hj' := HJ.out
            go_roundg (g1 - 1)
            case measure => omega
            case rel => exact ⟨j + 1, g7, c7, by omega, by simp, M7.out.put R7.out⟩
        · have hje : j = m := by have := HJ.out; omega
          have d5 : decide ((j : Int) ≤ (m : Int) - 1) = false := decide_eq_false (by omega)
          have wi : IntKind.i64.wrap ((i : Int) + 1) = (i : Int) + 1 := IntWalk.i64_in _ (by have := H7.out; omega)
          have MN := Lib.hid (M.out.congr (E' := mst C D (i + 1) 0) (by rw [hje]; exact mst_row C D i))
          clear hje
          go_wp2_with fail
          have hi' := HI.out
          go_roundg (g0 - 1)
          case measure => omega
          case rel => exact ⟨i + 1, go, co, by omega, by simp, MN.out⟩
    · have hie : i = m := by have := HI.out; omega
      have d4 : decide ((i : Int) ≤ (m : Int) - 1) = false := decide_eq_false (by omega)
      have MN := Lib.hid (M.out.congr (E' := minM C D) (by rw [hie]; exact mst_all C D))
      clear hie M
      have b0 := MN.out.zo.cell0
      have b1 := MN.out.zo.cell1
      have b2 := MN.out.zo.lt
      go_wp2_with (go_at_call 35; ((with_reducible refine (rclose_rz H0.out H7.out HB.out MN.out.rowE).mono ?_); rintro e w6 ⟨A6, c6, rfl, hz6, hb6⟩); have M6 := Lib.hid (MN.out.below hb6); have Z6 := Lib.hid hz6; have r0 := M6.out.zr.cell0; have r1 := M6.out.zr.cell1; have r2 := M6.out.zr.frozen0; have r3 := M6.out.zr.frozen1; have r4 := M6.out.zr.lt; clear hb6 hz6)
      have hp := res_put M6.out.zr M6.out.low (by omega) (.int .i64 ((m : Int) - 1)) (.slice A6 (rlen m (setR m (minM C D))) c6)
      have hzz := zres_put M6.out.zr (Z6.out.lower MN.out.low.size) (.int .i64 ((m : Int) - 1)) (.slice A6 (rlen m (setR m (minM C D))) c6)
      have y0 := hp.1.cell0
      have y1 := hp.1.cell1
      exact bodyPost_ret (v := zoneV ((m : Int) - 1) A6 (rlen m (setR m (minM C D))) c6) (by simp [results, Tryz.results62, go_sem, y0, y1]) rfl ⟨A6, c6, rfl, hzz, hp.2⟩
end
end Go.Proofs.YtimckaphmfidhaaGreatDoor
