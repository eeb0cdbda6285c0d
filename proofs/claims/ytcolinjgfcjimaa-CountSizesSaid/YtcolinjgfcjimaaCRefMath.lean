/- The document's cubes, plainly. -/
import Derived.Test.YtcolinjgfcjimaaCLawMath
namespace Go.Proofs.Ytcolinjgfcjimaa
open Go.RowKit

theorem cubesOf_ext (val v : Int) (u : Nat) (l : List Way) : cubesOf val (l.map (extW v u)) = (cubesOf val l).map fun c => (c.1 ||| 1 <<< v.toNat, c.2 ||| u <<< v.toNat) := by
  unfold cubesOf
  induction l with
  | nil => rfl
  | cons x l ih =>
    rw [List.map_cons]
    by_cases h : valueP x.2 = val
    · have h' : valueP (extW v u x).2 = val := h
      rw [List.filter_cons_of_pos (by simpa using h'), List.filter_cons_of_pos (by simpa using h), List.map_cons, List.map_cons, List.map_cons, ih]
      rfl
    · have h' : ¬ valueP (extW v u x).2 = val := h
      rw [List.filter_cons_of_neg (by simpa using h'), List.filter_cons_of_neg (by simpa using h), ih]
theorem cubesOf_two (val : Int) (a b : List Way) : cubesOf val (a ++ b) = cubesOf val a ++ cubesOf val b := by
  unfold cubesOf
  rw [List.filter_append, List.map_append]
theorem add_or {a b : Nat} (h : a &&& b = 0) : a ||| b = a + b := by
  have hw : a + b < 2 ^ (a + b) := Nat.lt_two_pow_self
  have h1 : (BitVec.ofNat (a + b) a &&& BitVec.ofNat (a + b) b) = 0#(a + b) := by
    rw [← BitVec.ofNat_and, h]
  have h2 := congrArg BitVec.toNat (BitVec.add_eq_or_of_and_eq_zero _ _ h1)
  rw [BitVec.toNat_add, BitVec.toNat_or, BitVec.toNat_ofNat, BitVec.toNat_ofNat, Nat.mod_eq_of_lt (show a < 2 ^ (a + b) by omega), Nat.mod_eq_of_lt (show b < 2 ^ (a + b) by omega), Nat.mod_eq_of_lt hw] at h2
  exact h2.symm
theorem or_pow {a V : Nat} (h : a.testBit V = false) : a ||| 1 <<< V = a + 2 ^ V := by
  rw [Nat.shiftLeft_eq, Nat.one_mul]
  refine add_or ?_
  apply Nat.eq_of_testBit_eq
  intro j
  rw [Nat.testBit_and, Nat.testBit_two_pow]
  by_cases hj : V = j
  · subst hj
    simp [h]
  · simp [hj]
/-- From a place on, with what is known so far. -/
def refC (L : List Nd) (val : Int) (m b : Nat) (r : Int) : List Cb := (cubesL L val r).map fun c => (m + c.1, b + c.2)
theorem refC_out {L : List Nd} {val : Int} {m b : Nat} {r : Int} (h : ¬ (0 ≤ r ∧ r < (L.length : Int))) : refC L val m b r = if valueP r = val then [(m, b)] else [] := by
  unfold refC cubesL
  rw [ways_out h]
  unfold cubesOf
  by_cases hv : valueP r = val
  · simp [hv]
  · simp [hv]
theorem refC_node {L : List Nd} (hR : RightL L) {k : Nat} {x1 x2 x3 : Int} {V : Nat} (hx : L[k]? = some (x1, x2, x3)) (hV : x1 = (V : Int)) (val : Int) (m b : Nat) : refC L val m b (k : Int) = refC L val (m + 2 ^ V) b x2 ++ refC L val (m + 2 ^ V) (b + 2 ^ V) x3 := by
  subst hV
  obtain ⟨⟨v0, v1⟩, -, ⟨-, l2⟩, -, l3⟩ := hR.1 _ _ hx
  dsimp only at v0 v1 l2 l3
  have no : ∀ r, varP L r > (V : Int) → ∀ c ∈ cubesL L val r, c.1.testBit V = false ∧ c.2.testBit V = false := by
    intro r hr c hc
    unfold cubesL cubesOf at hc
    obtain ⟨w, hw, rfl⟩ := List.mem_map.1 hc
    obtain ⟨p1, p2⟩ := ways_from hR r w (List.mem_filter.1 hw).1
    have h1 : w.1.1.testBit V = false := by
      cases h : w.1.1.testBit V
      · rfl
      · have := p1 V h; omega
    refine ⟨h1, ?_⟩
    cases h : w.1.2.testBit V
    · rfl
    · rw [p2 V h] at h1; cases h1
  have e2 := no x2 (by omega)
  have e3 := no x3 (by omega)
  unfold refC
  unfold cubesL at e2 e3 ⊢
  rw [ways_node hR hx, cubesOf_two, List.map_append, cubesOf_ext, cubesOf_ext, List.map_map, List.map_map, Int.toNat_natCast]
  congr 1
  · refine List.map_congr_left fun c hc => ?_
    simp only [Function.comp, zero_shift, Nat.or_zero]
    rw [or_pow (e2 c hc).1]
    congr 1
    omega
  · refine List.map_congr_left fun c hc => ?_
    simp only [Function.comp]
    rw [or_pow (e3 c hc).1, or_pow (e3 c hc).2]
    congr 1
    · omega
    · omega
theorem refC_zero (L : List Nd) (val r : Int) : refC L val 0 0 r = cubesL L val r := by
  unfold refC
  simp
theorem refC_len {L : List Nd} (hR : RightL L) (val : Int) (m b : Nat) (r : Int) : (refC L val m b r).length ≤ 4096 := by
  unfold refC cubesL
  rw [List.length_map]
  exact Nat.le_trans (cubesOf_len _ _) (ways_few hR r)
end Go.Proofs.Ytcolinjgfcjimaa
