/- ZoneChanges: what the document makes of a zone has the points that the program makes. Nothing of the program stands here. -/
import Derived.Test.YtimckaphmfidhaaGreatDoorRMeet
import Derived.Test.YtimckaphmfidhaaGreatDoorGMoves
namespace Go.Proofs.YtimckaphmfidhaaGreatDoor
open Go.RowKit

/-- The document's way to forget: all bounds of i but the diagonal's are the greatest. -/
def lsM (C : Mat) (i : Nat) : Mat := fun a b => if (a = i ∨ b = i) ∧ a ≠ b then far a b else C a b
section
variable {m i j : Nat} {C : Mat} {p : Nat → Int} {c : Int}
theorem pt_ls (hC : Closed m C) (_ : i < m) : Pt m (lsM C i) p ↔ Pt m (fgt C i) p := by
  rw [pt_fgt]
  constructor
  · intro h
    refine ⟨h.zero, h.whole, fun a b ha hb h1 h2 => ?_⟩
    have h3 := h.holds a b ha hb
    unfold lsM at h3
    rw [if_neg (by omega)] at h3
    exact h3
  · rintro ⟨h0, h1, h2⟩
    refine ⟨h0, h1, fun a b ha hb => ?_⟩
    have h3 := h1 a ha
    have h4 := h1 b hb
    unfold lsM
    split
    · rename_i e
      rcases far_cases a b with g | g | g
      · exact absurd g.1 e.2
      · rcases g.2.1 with rfl | rfl <;> omega
      · omega
    · rename_i e
      by_cases hab : a = b
      · subst hab
        have := hC.diag a ha
        omega
      · exact h2 a b ha hb (by omega) (by omega)
theorem ls_set (hC : Closed m C) (h0 : 0 < m) (hi : i < m) : SameO m (setR m (lsM C i)) (setR m (fgt C i)) := setR_pts h0 fun _ => pt_ls hC hi
theorem ls_alive (hC : Closed m C) (h0 : 0 < m) (hi : i < m) : Alive m (lsM C i) := (alive_pt ((pt_ls hC hi).2 (fgt_self (pt_col hC h0 h0)))).1
theorem ls_bd (hC : Closed m C) : Bd m (lsM C i) := fun a b ha hb => by
  have h1 := hC.near a b ha hb
  have h2 := hC.low ha hb
  have h3 := far_nonneg a b
  unfold lsM
  split <;> omega
theorem closed_bd (hC : Closed m C) : Bd m C := fun a b ha hb => by
  have h1 := hC.near a b ha hb
  have h2 := hC.low ha hb
  have h3 := far_nonneg a b
  omega
theorem grd_bd (h : Bd m C) (hc : -2305843009213693952 ≤ c) : Bd m (grd C i j c) := fun a b ha hb => by
  have h1 := h a b ha hb
  unfold grd upd
  split
  · rename_i e
    obtain ⟨rfl, rfl⟩ := e
    omega
  · exact h1
theorem pt_lev {A : Mat} : Pt m (lev A m) p ↔ Pt m A p := ⟨pt_of_lev, fun h => (alive_pt h).2⟩
/-- Set. -/
theorem set_doc {L H : Int} (hC : Closed m C) (h0 : 0 < m) (hi : i < m) : SameO m (setR m (setM (lev (lsM C i) m) i L H)) (setR m (setM (lev (fgt C i) m) i L H)) := setR_pts h0 fun p => by
  unfold setM
  rw [pt_grd h0 hi, pt_grd hi h0, pt_grd h0 hi, pt_grd hi h0, pt_lev, pt_lev, pt_ls hC hi]
theorem set_none_of {F : Mat} {L H : Int} (h0 : 0 < m) (hi : i < m) (h : H < L) : setR m (setM F i L H) = none := by
  refine setR_no fun ha => ?_
  have hp := pt_of_lev (pt_col (lev_closed ha) h0 h0)
  unfold setM at hp
  rw [pt_grd h0 hi, pt_grd hi h0] at hp
  omega
/-- Guard: a bound that no two numbers come up to. -/
theorem grd_none (h0 : 0 < m) (hi : i < m) (hj : j < m) (hc : c < -2305843009213693952) : setR m (grd C i j c) = none := by
  refine setR_no fun ha => ?_
  have hp := pt_of_lev (pt_col (lev_closed ha) h0 h0)
  rw [pt_grd hi hj] at hp
  have h1 := hp.1.whole i hi
  have h2 := hp.1.whole j hj
  omega
/-- One guard behind the other. -/
theorem grd_grd {A : Mat} {x : Int} (h0 : 0 < m) (hi : i < m) (hj : j < m) : SameO m (grdO m (setR m A) (i : Int) (j : Int) x) (setR m (grd A i j x)) := by
  by_cases ha : Alive m A
  · rw [setR_yes ha]
    unfold grdO
    have k : (knownB ((m : Int) - 1) (i : Int) && knownB ((m : Int) - 1) (j : Int)) = true := by
      unfold knownB
      rw [decide_eq_true (by omega), decide_eq_true (by omega), decide_eq_true (by omega), decide_eq_true (by omega)]
      rfl
    show SameO m (if (knownB ((m : Int) - 1) (i : Int) && knownB ((m : Int) - 1) (j : Int)) = true then setR m (grd (lev A m) ((i : Int).toNat) ((j : Int).toNat) x) else some (lev A m)) (setR m (grd A i j x))
    rw [if_pos k]
    exact setR_pts h0 fun p => by
      show Pt m (grd (lev A m) ((i : Int).toNat) ((j : Int).toNat) x) p ↔ _
      simp only [Int.toNat_natCast]
      rw [pt_grd hi hj, pt_grd hi hj, pt_lev]
  · rw [setR_no ha, setR_no fun hb => ha (alive_pt ((pt_grd hi hj).1 (pt_of_lev (pt_col (lev_closed hb) h0 h0))).1).1]
    trivial
theorem sameO_trans {R S T : Option Mat} (h : SameO m R S) (k : SameO m S T) : SameO m R T := by
  match R, S, T, h, k with
  | none, none, none, _, _ => trivial
  | some A, some B, some D, h, k =>
    have h' : Same m A B := h
    have k' : Same m B D := k
    exact (fun a b ha hb => (h' a b ha hb).trans (k' a b ha hb) : Same m A D)
theorem sameO_symm {R S : Option Mat} (h : SameO m R S) : SameO m S R := by
  match R, S, h with
  | none, none, _ => trivial
  | some A, some B, h =>
    have h' : Same m A B := h
    exact (fun a b ha hb => (h' a b ha hb).symm : Same m B A)
/-- Copy, of two. -/
theorem cpy_doc (hC : Closed m C) (h0 : 0 < m) (hi : i < m) (hj : j < m) : SameO m (grdO m (setR m (grd (lev (lsM C i) m) i j c)) (j : Int) (i : Int) (-c)) (setR m (cpyM m C i j c)) :=
  sameO_trans (grd_grd h0 hj hi) (setR_pts h0 fun p => by
    unfold cpyM
    rw [pt_grd hj hi, pt_grd hi hj, pt_grd hj hi, pt_grd hi hj, pt_lev, pt_lev, pt_ls hC hi])
/-- Copy, of one: the near bounds of what was moved have the same points. -/
theorem shf_near {E : Mat} (hC : Closed m C) (hi1 : 1 ≤ i) (hi : i < m) (h0 : 0 < m) (hc : -2305843009213693952 ≤ c ∧ c ≤ 2305843009213693952)
    (hE : ∀ a b, a < m → b < m → (E a b = shf C i c a b) ∨ (shf C i c a b > 2305843009213693952 ∧ E a b > 2305843009213693951) ∨ (shf C i c a b < -2305843009213693952 ∧ E a b = -2305843009213693952)) : SameO m (setR m E) (setR m (shf C i c)) := setR_pts h0 fun p => by
  constructor
  · intro h
    refine ⟨h.zero, h.whole, fun a b ha hb => ?_⟩
    have h1 := h.holds a b ha hb
    have wa := h.whole a ha
    have wb := h.whole b hb
    rcases hE a b ha hb with e | e | e
    · omega
    · omega
    · -- it would be less than any two numbers are apart: variable 0 tells that it is not
      exfalso
      have hz := h.zero
      have g1 := h.holds i 0 hi h0
      have g2 := h.holds 0 i h0 hi
      have n1 := hC.near i 0 hi h0
      have n2 := hC.near 0 i h0 hi
      have f1 := far_zero (show i ≠ 0 by omega)
      have e0 := hE i 0 hi h0
      have e00 := hE 0 i h0 hi
      have wi := h.whole i hi
      have s1 : shf C i c i 0 = C i 0 + c := by unfold shf; rw [if_pos rfl, if_neg (by omega)]; omega
      have s2 : shf C i c 0 i = C 0 i - c := by unfold shf; rw [if_pos rfl, if_neg (by omega)]; omega
      rw [s1] at e0
      rw [s2] at e00
      unfold shf at e
      by_cases ea : a = i
      · subst ea
        by_cases eb : b = a
        · subst eb
          have := hC.diag b hb
          simp at e
          omega
        · rw [if_pos rfl, if_neg eb] at e
          have t1 := hC.tri b a 0 hb ha h0
          have t2 := hC.near b 0 hb h0
          have t3 := far_nonneg b 0
          have f3 : far b 0 ≤ 1152921504606846976 := by rcases far_cases b 0 with q | q | q <;> omega
          omega
      · by_cases eb : b = i
        · subst eb
          rw [if_neg ea, if_pos rfl] at e
          have t1 := hC.tri a 0 b ha h0 hb
          have f3 : far 0 a ≤ 1152921504606846976 := by rcases far_cases 0 a with q | q | q <;> omega
          have t2 := hC.near 0 a h0 ha
          omega
        · rw [if_neg ea, if_neg eb] at e
          have l1 := hC.low ha hb
          have l2 := far_nonneg a b
          omega
  · intro h
    refine ⟨h.zero, h.whole, fun a b ha hb => ?_⟩
    have h1 := h.holds a b ha hb
    have wa := h.whole a ha
    have wb := h.whole b hb
    rcases hE a b ha hb with e | e | e <;> omega
end
end Go.Proofs.YtimckaphmfidhaaGreatDoor
