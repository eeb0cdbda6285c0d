/- ZoneTight: what Guard makes of a bound that is reached, and of one less; and the points that reach the ends. -/
import Derived.Test.YtlddelnbjihhgaaGreatDoorBack
import Derived.Test.YtlddelnbjihhgaaGreatDoorGuard
import Derived.Test.YtlddelnbjihhgaaGreatDoorHasMore
namespace Go.Proofs.YtlddelnbjihhgaaGreatDoor
open Go.RowKit

theorem grd_pt {m : Nat} {C : Mat} {p : Nat → Int} (hp : Pt m C p) {i j : Nat} {c : Int} (h : p i - p j ≤ c) : Pt m (grd C i j c) p := by
  refine ⟨hp.zero, hp.whole, fun a b ha hb => ?_⟩
  have h1 := hp.holds a b ha hb
  unfold grd upd
  split
  · rename_i e
    obtain ⟨rfl, rfl⟩ := e
    omega
  · exact h1
theorem tight_yes {m : Nat} {C : Mat} (hC : Closed m C) (h0 : 0 < m) {i j : Nat} (hi : i < m) (hj : j < m) : ∃ D, grdO m (some C) (j : Int) (i : Int) (-(C i j)) = some D := by
  rw [grdO_in hj hi]
  have hp := pt_col hC h0 hj
  have hg := grd_pt hp (i := j) (j := i) (c := -(C i j)) (by rw [if_pos hi, if_pos hj, hC.diag j hj]; omega)
  exact ⟨_, setR_yes (alive_pt hg).1⟩
theorem tight_no {m : Nat} {C : Mat} (h0 : 0 < m) {i j : Nat} (hi : i < m) (hj : j < m) : grdO m (some C) (j : Int) (i : Int) (-(C i j) - 1) = none := by
  rw [grdO_in hj hi]
  refine setR_no fun ha => ?_
  have hp := pt_of_lev (pt_col (lev_closed ha) h0 h0)
  have h1 := hp.holds j i hj hi
  have h2 := hp.holds i j hi hj
  have e1 : grd C j i (-(C i j) - 1) j i = min (C j i) (-(C i j) - 1) := by unfold grd upd; rw [if_pos ⟨rfl, rfl⟩]
  have e2 : grd C j i (-(C i j) - 1) i j ≤ C i j := by
    unfold grd upd
    split
    · rename_i e
      obtain ⟨e3, -⟩ := e
      subst e3
      omega
    · omega
  rw [e1] at h1
  omega
theorem outB_no {x : Int} (h : -1152921504606846976 ≤ x ∧ x ≤ 1152921504606846976) : outB x = false := by
  unfold outB
  rw [decide_eq_true h.1, decide_eq_true h.2]
  rfl
/-- A point of n numbers is in it. -/
theorem has_pt {m n : Nat} {C : Mat} {f : Nat → Int} {p : Nat → Int} (hl : n + 1 = m) (hp : Pt m C p) (hf : ∀ k, k < n → f k = p (k + 1)) : anyOut n f = false ∧ leB m (pmat (vof f)) C = true := by
  have hv : ∀ i, i < m → vof f i = p i := fun i hi => by
    unfold vof
    split
    · rename_i e; subst e; exact hp.zero.symm
    · rename_i e
      rw [hf (i - 1) (by omega)]
      congr 1
      omega
  refine ⟨anyOut_no fun k hk => outB_no ?_, (leB_iff _ _ _).2 fun i j hi hj => ?_⟩
  · rw [hf k hk]
    exact hp.whole (k + 1) (by omega)
  · unfold pmat
    rw [hv i hi, hv j hj]
    exact hp.holds i j hi hj
theorem high_pt {m n : Nat} {C : Mat} {f : Nat → Int} (hC : Closed m C) (hl : n + 1 = m) (hf : ∀ k, k < n → f k = C (k + 1) 0) : anyOut n f = false ∧ leB m (pmat (vof f)) C = true :=
  has_pt hl (pt_col hC (by omega) (show 0 < m by omega)) fun k hk => by
    rw [hf k hk, if_pos (by omega), hC.diag 0 (by omega)]
    omega
theorem low_pt {m n : Nat} {C : Mat} {f : Nat → Int} (hC : Closed m C) (hl : n + 1 = m) (hf : ∀ k, k < n → f k = -(C 0 (k + 1))) : anyOut n f = false ∧ leB m (pmat (vof f)) C = true :=
  has_pt hl (pt_row hC (by omega) (show 0 < m by omega)) fun k hk => by
    rw [hf k hk, if_pos (by omega), hC.diag 0 (by omega)]
    omega
/-- The ends of a variable. -/
theorem ends_of {m k : Nat} {C : Mat} (hC : Closed m C) (hk : 1 ≤ k) (hm : k < m) : spO m (some C) (k : Int) = (-(C 0 k), C k 0) := by
  have e : namedB ((m : Int) - 1) (k : Int) = true := by
    unfold namedB
    rw [decide_eq_true (by omega), decide_eq_true (by omega)]
    rfl
  have h1 := hC.near 0 k (by omega) hm
  have h2 := hC.near k 0 hm (by omega)
  have h3 := hC.low (show 0 < m by omega) hm
  have h4 := hC.low hm (show 0 < m by omega)
  have h5 := hC.tri k 0 0 hm (by omega) (by omega)
  rw [hC.diag 0 (by omega)] at h5
  have h6 := far_zero (show k ≠ 0 by omega)
  show (if namedB ((m : Int) - 1) (k : Int) = true then (ofL (-C 0 (k : Int).toNat) (C (k : Int).toNat 0), ofH (-C 0 (k : Int).toNat) (C (k : Int).toNat 0)) else (1, 0)) = _
  rw [if_pos e, Int.toNat_natCast]
  rcases of_cases (-C 0 k) (C k 0) with ⟨-, a, b⟩ | ⟨h, -⟩
  · rw [a, b, Prod.mk.injEq]
    omega
  · omega
end Go.Proofs.YtlddelnbjihhgaaGreatDoor
