/- What the cubes say of the numbers: each fits just one way; their weights; all values together. -/
import Derived.Test.YtcolinjgfcjimaaCAlive
namespace Go.Proofs.Ytcolinjgfcjimaa
open Go.RowKit

section
variable {L : List Nd}
theorem one_bit (v j : Nat) : (1 <<< v).testBit j = decide (j = v) := by
  rw [Nat.shiftLeft_eq, Nat.one_mul, Nat.testBit_two_pow]
  exact decide_eq_decide.2 ⟨fun h => h.symm, fun h => h.symm⟩
theorem zero_shift (v : Nat) : 0 <<< v = 0 := by simp
/-- A way's mask has bits from the ref's variable on alone, and its bits are among them. -/
theorem ways_from (hR : RightL L) : ∀ r, ∀ w ∈ waysL L r, (∀ j : Nat, w.1.1.testBit j = true → varP L r ≤ (j : Int) ∧ j < 12) ∧ ∀ j, w.1.2.testBit j = true → w.1.1.testBit j = true := by
  refine down hR (fun r hr w hw => ?_) fun k x hx _ _ h2 h3 w hw => ?_
  · rw [ways_out hr, List.mem_singleton] at hw
    subst hw
    exact ⟨fun j hj => by simp at hj, fun j hj => by simp at hj⟩
  · obtain ⟨x1, x2, x3⟩ := x
    obtain ⟨⟨v0, v1⟩, -, ⟨-, l2⟩, -, l3⟩ := hR.1 _ _ hx
    dsimp only at v0 v1 l2 l3 h2 h3
    rw [varP_at hx]
    dsimp only
    rw [ways_node hR hx, List.mem_append, List.mem_map, List.mem_map] at hw
    rcases hw with ⟨y, hy, rfl⟩ | ⟨y, hy, rfl⟩
    · obtain ⟨p1, p2⟩ := h2 y hy
      refine ⟨fun j hj => ?_, fun j hj => ?_⟩
      · simp only [extW, Nat.testBit_or, Bool.or_eq_true, one_bit, decide_eq_true_eq] at hj
        rcases hj with hj | hj
        · have := p1 j hj; omega
        · omega
      · simp only [extW, zero_shift, Nat.or_zero] at hj
        simp only [extW, Nat.testBit_or, Bool.or_eq_true]
        exact .inl (p2 j hj)
    · obtain ⟨p1, p2⟩ := h3 y hy
      refine ⟨fun j hj => ?_, fun j hj => ?_⟩
      · simp only [extW, Nat.testBit_or, Bool.or_eq_true, one_bit, decide_eq_true_eq] at hj
        rcases hj with hj | hj
        · have := p1 j hj; omega
        · omega
      · simp only [extW, Nat.testBit_or, Bool.or_eq_true] at hj ⊢
        exact hj.imp (p2 j) id
def fitsB (b : Nat) (w : Way) : Bool := decide (b &&& w.1.1 = w.1.2)
theorem fits_iff (b m c : Nat) : b &&& m = c ↔ ∀ j, (b.testBit j && m.testBit j) = c.testBit j := by
  constructor
  · intro h j
    rw [← h, Nat.testBit_and]
  · intro h
    apply Nat.eq_of_testBit_eq
    intro j
    rw [Nat.testBit_and, h j]
theorem fits_ext {b : Nat} {w : Way} {v : Int} {u : Nat} (hu : u ≤ 1) (h1 : w.1.1.testBit v.toNat = false) (h2 : ∀ j, w.1.2.testBit j = true → w.1.1.testBit j = true) : fitsB b (extW v u w) = (fitsB b w && (b.testBit v.toNat == decide (u = 1))) := by
  have hc : w.1.2.testBit v.toNat = false := by
    cases h : w.1.2.testBit v.toNat
    · rfl
    · rw [h2 _ h] at h1; cases h1
  have ub : ∀ j, (u <<< v.toNat).testBit j = (decide (j = v.toNat) && decide (u = 1)) := by
    intro j
    rcases (show u = 0 ∨ u = 1 by omega) with rfl | rfl
    · simp
    · rw [one_bit]; simp
  unfold fitsB extW
  rw [Bool.eq_iff_iff]
  simp only [decide_eq_true_eq, Bool.and_eq_true, beq_iff_eq]
  rw [fits_iff, fits_iff]
  simp only [Nat.testBit_or, one_bit, ub]
  constructor
  · intro h
    refine ⟨fun j => ?_, ?_⟩
    · have := h j
      by_cases hj : j = v.toNat
      · subst hj
        rw [h1, hc]; simp
      · simpa [hj] using this
    · have := h v.toNat
      rw [h1, hc] at this
      simpa using this
  · rintro ⟨h, hb⟩ j
    have := h j
    by_cases hj : j = v.toNat
    · subst hj
      rw [h1, hc, hb]; simp
    · simpa [hj] using this
/-- Of all ways of a ref, just one fits: the one that the bits go. -/
theorem fits_one (hR : RightL L) (b : Nat) : ∀ r, ((waysL L r).filter (fitsB b)).map (·.2) = [endP L b r] := by
  refine down hR (fun r hr => ?_) fun k x hx _ _ h2 h3 => ?_
  · rw [ways_out hr, endP_out hr]
    simp [fitsB]
  · have hw2 := ways_from hR x.2.1
    have hw3 := ways_from hR x.2.2
    obtain ⟨⟨v0, v1⟩, -, ⟨-, l2⟩, -, l3⟩ := hR.1 _ _ hx
    rw [ways_node hR hx, List.filter_append, List.filter_map, List.filter_map, List.map_append, List.map_map, List.map_map, endP_node hR b hx]
    have e2 : (waysL L x.2.1).filter (fitsB b ∘ extW x.1 0) = if b.testBit x.1.toNat = true then [] else (waysL L x.2.1).filter (fitsB b) := by
      split
      · rename_i hb
        rw [List.filter_eq_nil_iff]
        intro w hw
        obtain ⟨p1, p2⟩ := hw2 w hw
        have hv : w.1.1.testBit x.1.toNat = false := by
          cases h : w.1.1.testBit x.1.toNat
          · rfl
          · have := p1 _ h; omega
        simp [fits_ext (by omega : (0 : Nat) ≤ 1) hv p2, hb]
      · rename_i hb
        refine List.filter_congr fun w hw => ?_
        obtain ⟨p1, p2⟩ := hw2 w hw
        have hv : w.1.1.testBit x.1.toNat = false := by
          cases h : w.1.1.testBit x.1.toNat
          · rfl
          · have := p1 _ h; omega
        simp [fits_ext (by omega : (0 : Nat) ≤ 1) hv p2, hb]
    have e3 : (waysL L x.2.2).filter (fitsB b ∘ extW x.1 1) = if b.testBit x.1.toNat = true then (waysL L x.2.2).filter (fitsB b) else [] := by
      split
      · rename_i hb
        refine List.filter_congr fun w hw => ?_
        obtain ⟨p1, p2⟩ := hw3 w hw
        have hv : w.1.1.testBit x.1.toNat = false := by
          cases h : w.1.1.testBit x.1.toNat
          · rfl
          · have := p1 _ h; omega
        simp [fits_ext (by omega : (1 : Nat) ≤ 1) hv p2, hb]
      · rename_i hb
        rw [List.filter_eq_nil_iff]
        intro w hw
        obtain ⟨p1, p2⟩ := hw3 w hw
        have hv : w.1.1.testBit x.1.toNat = false := by
          cases h : w.1.1.testBit x.1.toNat
          · rfl
          · have := p1 _ h; omega
        simp [fits_ext (by omega : (1 : Nat) ≤ 1) hv p2, hb]
    have hm2 : ((fun w : Way => w.2) ∘ extW x.1 0) = fun w => w.2 := rfl
    have hm3 : ((fun w : Way => w.2) ∘ extW x.1 1) = fun w => w.2 := rfl
    rw [e2, e3, hm2, hm3]
    by_cases hb : b.testBit x.1.toNat = true
    · rw [if_pos hb, if_pos hb, if_pos hb, ← h3]; rfl
    · rw [if_neg hb, if_neg hb, if_neg hb, ← h2]; simp
/-- How many cubes of a row fit. -/
def fitN (b : Nat) (C : List Cb) : Nat := C.countP fun c => decide (b &&& c.1 = c.2)
theorem fitN_is (hR : RightL L) (b : Nat) (val r : Int) : fitN b (cubesL L val r) = if valueP (endP L b r) = val then 1 else 0 := by
  have h := fits_one hR b r
  have e : fitN b (cubesL L val r) = (((waysL L r).filter (fitsB b)).filter fun w => decide (valueP w.2 = val)).length := by
    unfold fitN cubesL cubesOf
    rw [List.countP_map, List.countP_eq_length_filter, List.filter_filter, List.filter_filter]
    congr 1
    refine List.filter_congr fun w _ => ?_
    simp only [Function.comp, fitsB]
    rw [Bool.and_comm]
  rw [e]
  obtain ⟨w, hl, hw⟩ := List.map_eq_singleton_iff.1 h
  rw [hl, ← hw]
  by_cases hv : valueP w.2 = val
  · simp [hv]
  · simp [hv]
end
end Go.Proofs.Ytcolinjgfcjimaa
