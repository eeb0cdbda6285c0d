/- Zone: what the changes make of a zone, said by its points. -/
import Derived.Test.YtlddelnbjihhgaaGreatDoorTightNums
namespace Go.Proofs.YtlddelnbjihhgaaGreatDoor
open Go.RowKit

theorem setR_some {m : Nat} {A C : Mat} (h : setR m A = some C) : Alive m A ∧ C = lev A m := by
  unfold setR at h
  split at h
  · rename_i ha
    injection h with h
    exact ⟨(aliveB_iff _ _).1 ha, h.symm⟩
  · cases h
theorem vof_succ (f : Nat → Int) (k : Nat) : f k = vof f (k + 1) := by
  unfold vof
  rw [if_neg (by omega)]
  rfl
/-- Has, said by the point. -/
theorem hasO_iff {m n : Nat} {f : Nat → Int} {R : Option Mat} : hasO m n f R = true ↔ ∃ C, R = some C ∧ n + 1 = m ∧ Pt m C (vof f) := by
  cases R with
  | none => exact ⟨fun h => (by cases h), fun ⟨C, h, _⟩ => (by cases h)⟩
  | some C =>
    constructor
    · intro h
      have h' : (decide (n + 1 = m) && (!anyOut n f && leB m (pmat (vof f)) C)) = true := h
      rw [Bool.and_eq_true, Bool.and_eq_true, decide_eq_true_eq, Bool.not_eq_true'] at h'
      obtain ⟨h1, h2, h3⟩ := h'
      exact ⟨C, rfl, h1, ⟨rfl, fun i hi => vof_bd h2 (by omega), fun i j hi hj => (leB_iff _ _ _).1 h3 i j hi hj⟩⟩
    · rintro ⟨D, e, h1, hp⟩
      injection e with e
      subst e
      obtain ⟨h2, h3⟩ := has_pt h1 hp (fun k _ => vof_succ f k)
      show (decide (n + 1 = m) && (!anyOut n f && leB m (pmat (vof f)) C)) = true
      rw [h2, h3, decide_eq_true h1]
      rfl
theorem hasO_set {m n : Nat} {f : Nat → Int} {A : Mat} : hasO m n f (setR m A) = true ↔ n + 1 = m ∧ Pt m A (vof f) := by
  rw [hasO_iff]
  constructor
  · rintro ⟨C, h, h1, hp⟩
    obtain ⟨ha, rfl⟩ := setR_some h
    exact ⟨h1, pt_of_lev hp⟩
  · rintro ⟨h1, hp⟩
    obtain ⟨ha, hl⟩ := alive_pt hp
    exact ⟨_, setR_yes ha, h1, hl⟩
/-- What has the same points is settled to the same. -/
theorem setR_pts {m : Nat} {A B : Mat} (h0 : 0 < m) (h : ∀ p, Pt m A p ↔ Pt m B p) : SameO m (setR m A) (setR m B) := by
  have go : ∀ X Y : Mat, (∀ p, Pt m X p ↔ Pt m Y p) → Alive m X → Alive m Y := fun X Y hh ha =>
    (alive_pt ((hh _).1 (pt_of_lev (pt_col (lev_closed ha) h0 h0)))).1
  by_cases ha : Alive m A
  · have hb := go A B h ha
    rw [setR_yes ha, setR_yes hb]
    exact same_of_pts (lev_closed ha) (lev_closed hb) h0 fun p => ⟨fun hp => (alive_pt ((h p).1 (pt_of_lev hp))).2, fun hp => (alive_pt ((h p).2 (pt_of_lev hp))).2⟩
  · have hb : ¬ Alive m B := fun hb => ha (go B A (fun p => (h p).symm) hb)
    rw [setR_no ha, setR_no hb]
    trivial
theorem setR_right {m : Nat} {C : Mat} (hC : Closed m C) : SameO m (setR m C) (some C) := by
  obtain ⟨ha, hs⟩ := lev_same hC
  rw [setR_yes ha]
  exact hs
theorem pt_congr {m : Nat} {A B : Mat} {p : Nat → Int} (h : Same m A B) (hp : Pt m A p) : Pt m B p := ⟨hp.zero, hp.whole, fun i j hi hj => by rw [← h i j hi hj]; exact hp.holds i j hi hj⟩
theorem pt_min {m : Nat} {C D : Mat} {p : Nat → Int} : Pt m (minM C D) p ↔ Pt m C p ∧ Pt m D p := by
  constructor
  · intro h
    exact ⟨pt_le h fun i j _ _ => by unfold minM; omega, pt_le h fun i j _ _ => by unfold minM; omega⟩
  · rintro ⟨h, g⟩
    refine ⟨h.zero, h.whole, fun i j hi hj => ?_⟩
    have h1 := h.holds i j hi hj
    have h2 := g.holds i j hi hj
    unfold minM
    omega
theorem pt_grd {m : Nat} {C : Mat} {p : Nat → Int} {i j : Nat} {c : Int} (hi : i < m) (hj : j < m) : Pt m (grd C i j c) p ↔ Pt m C p ∧ p i - p j ≤ c := by
  constructor
  · intro h
    refine ⟨pt_le h fun a b _ _ => ?_, ?_⟩
    · unfold grd upd
      split
      · rename_i e
        obtain ⟨rfl, rfl⟩ := e
        omega
      · omega
    · have h1 := h.holds i j hi hj
      unfold grd upd at h1
      rw [if_pos ⟨rfl, rfl⟩] at h1
      omega
  · rintro ⟨h, g⟩
    exact grd_pt h g
/-- Variable i may be anything. -/
def fgt (C : Mat) (i : Nat) : Mat := fun a b => if a = i ∨ b = i then 4611686018427387904 else C a b
theorem pt_fgt {m : Nat} {C : Mat} {p : Nat → Int} {i : Nat} : Pt m (fgt C i) p ↔ p 0 = 0 ∧ (∀ a, a < m → -1152921504606846976 ≤ p a ∧ p a ≤ 1152921504606846976) ∧ ∀ a b, a < m → b < m → a ≠ i → b ≠ i → p a - p b ≤ C a b := by
  constructor
  · intro h
    refine ⟨h.zero, h.whole, fun a b ha hb h1 h2 => ?_⟩
    have h3 := h.holds a b ha hb
    unfold fgt at h3
    rw [if_neg (by omega)] at h3
    exact h3
  · rintro ⟨h0, h1, h2⟩
    refine ⟨h0, h1, fun a b ha hb => ?_⟩
    have h3 := h1 a ha
    have h4 := h1 b hb
    unfold fgt
    split
    · omega
    · exact h2 a b ha hb (by omega) (by omega)
/-- A point, with another number in one place. -/
def at1 (p : Nat → Int) (i : Nat) (x : Int) : Nat → Int := fun a => if a = i then x else p a
theorem fgt_put {m : Nat} {C : Mat} {p : Nat → Int} {i : Nat} {x : Int} (hp : Pt m C p) (hi : 1 ≤ i) (hx : -1152921504606846976 ≤ x ∧ x ≤ 1152921504606846976) : Pt m (fgt C i) (at1 p i x) := by
  refine pt_fgt.2 ⟨?_, fun a ha => ?_, fun a b ha hb h1 h2 => ?_⟩
  · unfold at1; rw [if_neg (by omega)]; exact hp.zero
  · unfold at1
    split
    · exact hx
    · exact hp.whole a ha
  · unfold at1
    rw [if_neg h1, if_neg h2]
    exact hp.holds a b ha hb
theorem fgt_self {m : Nat} {C : Mat} {p : Nat → Int} {i : Nat} (hp : Pt m C p) : Pt m (fgt C i) p := pt_fgt.2 ⟨hp.zero, hp.whole, fun a b ha hb _ _ => hp.holds a b ha hb⟩
theorem fgt_alive {m : Nat} {C : Mat} (hC : Closed m C) (h0 : 0 < m) (i : Nat) : Alive m (fgt C i) := (alive_pt (fgt_self (pt_col hC h0 h0))).1
/-- Variable i is moved on by c. -/
def shf (C : Mat) (i : Nat) (c : Int) : Mat := fun a b => C a b + (if a = i then c else 0) - (if b = i then c else 0)
theorem pt_shf {m : Nat} {C : Mat} {p : Nat → Int} {i : Nat} {c : Int} (hC : Closed m C) (hi : 1 ≤ i) (him : i < m) : Pt m (shf C i c) p ↔ Pt m C (at1 p i (p i - c)) ∧ -1152921504606846976 ≤ p i ∧ p i ≤ 1152921504606846976 := by
  constructor
  · intro h
    refine ⟨⟨?_, fun a ha => ?_, fun a b ha hb => ?_⟩, h.whole i him⟩
    · unfold at1; rw [if_neg (by omega)]; exact h.zero
    · unfold at1
      split
      · have h0 := h.zero
        have h1 := h.holds i 0 him (by omega)
        have h2 := h.holds 0 i (by omega) him
        have h3 := hC.near i 0 him (by omega)
        have h4 := hC.near 0 i (by omega) him
        have h5 := far_zero (show i ≠ 0 by omega)
        unfold shf at h1 h2
        rw [if_pos rfl, if_neg (by omega)] at h1 h2
        omega
      · exact h.whole a ha
    · have h1 := h.holds a b ha hb
      unfold shf at h1
      unfold at1
      split at h1 <;> split at h1 <;> rename_i e1 e2
      · rw [if_pos e1, if_pos e2]; subst e1; subst e2; omega
      · rw [if_pos e1, if_neg e2]; subst e1; omega
      · rw [if_neg e1, if_pos e2]; subst e2; omega
      · rw [if_neg e1, if_neg e2]; omega
  · rintro ⟨h, hx⟩
    refine ⟨?_, fun a ha => ?_, fun a b ha hb => ?_⟩
    · have := h.zero
      unfold at1 at this
      rw [if_neg (by omega)] at this
      exact this
    · by_cases e : a = i
      · subst e; exact hx
      · have := h.whole a ha
        unfold at1 at this
        rw [if_neg e] at this
        exact this
    · have h1 := h.holds a b ha hb
      unfold at1 at h1
      unfold shf
      split at h1 <;> split at h1 <;> rename_i e1 e2
      · rw [if_pos e1, if_pos e2]; subst e1; subst e2; omega
      · rw [if_pos e1, if_neg e2]; subst e1; omega
      · rw [if_neg e1, if_pos e2]; subst e2; omega
      · rw [if_neg e1, if_neg e2]; omega
end Go.Proofs.YtlddelnbjihhgaaGreatDoor
