/- ZoneSame: two right zones are the same just if each is below the other; and what both Joins come to. -/
import Derived.Test.YtjolpplghokngaaDoorBack
namespace Go.Proofs.YtjolpplghokngaaDoor
open Go.RowKit

theorem flat_eq {m : Nat} {C D : Mat} (h : flatL m C = flatL m D) : Same m C D := by
  intro i j hi hj
  have h1 := flat_at C hi hj
  have h2 := flat_at D hi hj
  rw [h, h2] at h1
  exact (Option.some.inj h1).symm
theorem flat_beq (m : Nat) (C D : Mat) : (flatL m C == flatL m D) = (leB m C D && leB m D C) := by
  rw [Bool.eq_iff_iff]
  simp only [beq_iff_eq, Bool.and_eq_true, leB_iff]
  constructor
  · intro h
    have hs := flat_eq h
    exact ⟨fun i j hi hj => Int.le_of_eq (hs i j hi hj), fun i j hi hj => Int.le_of_eq (hs i j hi hj).symm⟩
  · rintro ⟨h1, h2⟩
    exact flat_congr fun i j hi hj => Int.le_antisymm (h1 i j hi hj) (h2 i j hi hj)
/-- Same of both is: their N are one, and each is below the other. -/
theorem same_leq (ma mb : Nat) (Ra Rb : Option Mat) : sameO ma mb Ra Rb = (decide (ma = mb) && (leqO ma mb Ra Rb && leqO mb ma Rb Ra)) := by
  by_cases hm : ma = mb
  · subst hm
    cases Ra <;> cases Rb <;> simp [sameO, leqO, flat_beq]
  · have hm' : ¬ mb = ma := fun e => hm e.symm
    cases Ra <;> cases Rb <;> simp [sameO, leqO, hm, hm']
theorem max_comm' (C D : Mat) : maxM C D = maxM D C := by
  funext i j
  unfold maxM
  omega
theorem join_comm (ma mb : Nat) (Ra Rb : Option Mat) : meM ma mb = meM mb ma ∧ jnO ma mb Ra Rb = jnO mb ma Rb Ra := by
  by_cases hm : ma = mb
  · subst hm
    refine ⟨rfl, ?_⟩
    cases Ra <;> cases Rb <;> simp [jnO, max_comm']
  · have hm' : ¬ mb = ma := fun e => hm e.symm
    refine ⟨by simp [meM, hm, hm'], ?_⟩
    cases Ra <;> cases Rb <;> simp [jnO, hm, hm']
theorem same_self (m : Nat) (R : Option Mat) : sameO m m R R = true := by
  cases R <;> simp [sameO]
end Go.Proofs.YtjolpplghokngaaDoor
