/- A right zone is its own Close; and right zones with the same bounds are told alike. -/
import Derived.Test.YtlddelnbjihhgaaGreatDoorHas
namespace Go.Proofs.YtlddelnbjihhgaaGreatDoor
open Go.RowKit

def SameO (m : Nat) : Option Mat → Option Mat → Prop
  | none, none => True
  | some C, some D => Same m C D
  | _, _ => False
theorem rlen_same {m : Nat} {R S : Option Mat} (h : SameO m R S) : rlen m R = rlen m S := by
  cases R <;> cases S <;> first | rfl | exact absurd h (by simp [SameO])
theorem zres_congr {W : World} {base m : Nat} {R S : Option Mat} {v : Value} (hz : ZRes W base m R v) (h : SameO m R S) : ZRes W base m S v := by
  cases R with
  | none => cases S with
    | none => exact hz
    | some D => exact absurd h (by simp [SameO])
  | some C => cases S with
    | none => exact absurd h (by simp [SameO])
    | some D =>
      obtain ⟨hC, g, cap, e, o⟩ := hz
      have h' : Same m C D := h
      rw [flat_congr h'] at o
      exact ⟨hC.congr h', g, cap, e, o⟩
theorem retC_congr {w : World} {m : Nat} {R S : Option Mat} {e : Ending} {w' : World} (hr : RetC w m R e w') (h : SameO m R S) : RetC w m S e w' := by
  obtain ⟨A, cap, he, hz, hb⟩ := hr
  rw [rlen_same h] at he hz
  exact ⟨A, cap, he, zres_congr hz h, hb⟩
/-- Close leaves a right one as it is. -/
theorem close_back {w : World} {A : Option Addr} {c m base : Nat} {R : Option Mat} (h0 : 0 < m) (h7 : m ≤ 7) (hz : ZRes w base m R (zoneV ((m : Int) - 1) A (rlen m R) c)) :
    Calls Tryz.prog 34 #[zoneV ((m : Int) - 1) A (rlen m R) c] w (RetC w m R) := by
  have h := close_z (hz.arg h7)
  rw [(zm_of h0 h7).2] at h
  refine h.mono fun e w' hr => retC_congr hr ?_
  cases R with
  | none => rw [zr_bottom m h0 h7]; trivial
  | some C =>
    obtain ⟨D, e1, e2⟩ := zr_right h0 h7 hz.1
    rw [e1]
    exact e2
theorem two_back {w : World} {A B : Option Addr} {c d ma mb base : Nat} {Ra Rb : Option Mat} (h0 : 0 < ma) (h7 : ma ≤ 7) (g0 : 0 < mb) (g7 : mb ≤ 7) (ha : ZRes w base ma Ra (zoneV ((ma : Int) - 1) A (rlen ma Ra) c)) (hb : ZRes w base mb Rb (zoneV ((mb : Int) - 1) B (rlen mb Rb) d)) :
    Calls Tryz.prog 58 #[zoneV ((ma : Int) - 1) A (rlen ma Ra) c, zoneV ((mb : Int) - 1) B (rlen mb Rb) d] w (RetTwo w ma mb Ra Rb) :=
  two_of (fun _ hW => close_back h0 h7 (ha.below hW)) (fun _ hW => close_back g0 g7 (hb.below hW))

/-- A matrix by its rows. -/
def rowsM (m : Nat) (xs : List Int) : Mat := fun i j => xs.getD (i * m + j) 0
def sameB2 (m : Nat) (C D : Mat) : Bool := (List.range m).all fun i => (List.range m).all fun j => decide (C i j = D i j)
theorem sameB2_same {m : Nat} {C D : Mat} (h : sameB2 m C D = true) : Same m C D := by
  unfold sameB2 at h
  simp only [List.all_eq_true, List.mem_range, decide_eq_true_eq] at h
  exact fun i j hi hj => h i hi j hj
theorem setR_rows {m : Nat} {A : Mat} {xs : List Int} (ha : aliveB m A = true) (hs : sameB2 m (lev A m) (rowsM m xs) = true) : SameO m (setR m A) (some (rowsM m xs)) := by
  rw [setR_yes ((aliveB_iff _ _).1 ha)]
  exact sameB2_same hs
theorem setR_gone {m : Nat} {A : Mat} (ha : aliveB m A = false) : setR m A = none := setR_no (fun h => by rw [(aliveB_iff _ _).2 h] at ha; cases ha)

/-- The zones of 'alive'. -/
def A1 : List Int := [0, 1152921504606846976, 1152921504606846976, 5, 0, 1152921504606846981, 1152921504606846976, 2305843009213693952, 0]
def A2 : List Int := [0, 1152921504606846973, 1152921504606846976, 5, 0, 1152921504606846981, 2, -3, 0]
theorem grdO_in {m : Nat} {C : Mat} {i j : Nat} {c : Int} (hi : i < m) (hj : j < m) : grdO m (some C) (i : Int) (j : Int) c = setR m (grd C i j c) := by
  have e : (knownB ((m : Int) - 1) (i : Int) && knownB ((m : Int) - 1) (j : Int)) = true := by simp [knownB]; omega
  show (if _ then _ else _) = _
  rw [if_pos e]
  rfl
theorem a1_same : SameO 3 (grdO 3 (some far) 1 0 5) (some (rowsM 3 A1)) := by
  have e : grdO 3 (some far) 1 0 5 = setR 3 (grd far 1 0 5) := grdO_in (i := 1) (j := 0) (by decide) (by decide)
  rw [e]
  exact setR_rows (by decide +kernel) (by decide +kernel)
theorem a2_same : SameO 3 (grdO 3 (some (rowsM 3 A1)) 2 1 (-3)) (some (rowsM 3 A2)) := by
  have e : grdO 3 (some (rowsM 3 A1)) 2 1 (-3) = setR 3 (grd (rowsM 3 A1) 2 1 (-3)) := grdO_in (i := 2) (j := 1) (by decide) (by decide)
  rw [e]
  exact setR_rows (by decide +kernel) (by decide +kernel)
theorem a3_none : grdO 3 (some (rowsM 3 A2)) 0 1 (-6) = none := by
  have e : grdO 3 (some (rowsM 3 A2)) 0 1 (-6) = setR 3 (grd (rowsM 3 A2) 0 1 (-6)) := grdO_in (i := 0) (j := 1) (by decide) (by decide)
  rw [e]
  exact setR_gone (by decide +kernel)
theorem a2_span : spO 3 (some (rowsM 3 A2)) 2 = (-1152921504606846976, 2) := by decide +kernel
theorem a2_get : getO 3 (some (rowsM 3 A2)) 2 1 = -3 := by decide +kernel
theorem a2_has : leB 3 (pmat (vof fun k => if k = 0 then 5 else 2)) (rowsM 3 A2) = true := by decide +kernel
end Go.Proofs.YtlddelnbjihhgaaGreatDoor
