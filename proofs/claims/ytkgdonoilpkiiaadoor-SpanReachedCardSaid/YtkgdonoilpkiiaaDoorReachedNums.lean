/- Each end that was not cut comes of some ends of both, or of a divisor 1 or -1. Nothing of the program is walked here. -/
import Derived.Test.YtkgdonoilpkiiaaDoorRefCalcNums
namespace Go.Proofs.YtkgdonoilpkiiaaDoor

/-- The numbers that are tried, in their order: four divisors for each end of a. -/
def tryX (a b : Int) (i : Nat) : Int := if i = 0 then a else b
def tryY (c d : Int) (j : Nat) : Int := if j = 0 then c else if j = 1 then d else if j = 2 then -1 else 1
theorem tryX_in (a b : Int) (i : Nat) : tryX a b i = a ∨ tryX a b i = b := by unfold tryX; split <;> simp
/-- Something comes of them, and the second one is in the span. -/
def tryG (op a b c d : Int) (i j : Nat) : Bool := !(decide (op = 3) && decide (tryY c d j = 0)) && (inB (opR op (tryX a b i) (tryY c d j)) && hasS c d (tryY c d j))
/-- Was s met before the j-th divisor of the i-th end? -/
def metB (op a b c d s : Int) (m0 : Bool) (i : Nat) : Nat → Bool
  | 0 => m0
  | j + 1 => metB op a b c d s m0 i j || (tryG op a b c d i j && (opR op (tryX a b i) (tryY c d j) == s))
def metR (op a b c d s : Int) (m0 : Bool) : Nat → Bool
  | 0 => m0
  | i + 1 => metB op a b c d s (metR op a b c d s m0 i) i 4
theorem metB_mono {op a b c d s : Int} {m0 : Bool} {i j : Nat} (h : m0 = true) : metB op a b c d s m0 i j = true := by
  induction j with
  | zero => exact h
  | succ j ih => show (metB op a b c d s m0 i j || _) = true; rw [ih]; rfl
theorem metB_at {op a b c d s : Int} {m0 : Bool} {i j n : Nat} (hj : j < n) (hg : tryG op a b c d i j = true) (e : opR op (tryX a b i) (tryY c d j) = s) : metB op a b c d s m0 i n = true := by
  induction n with
  | zero => omega
  | succ n ih =>
    show (metB op a b c d s m0 i n || _) = true
    rcases Nat.lt_or_ge j n with c1 | c1
    · rw [ih c1]; rfl
    · obtain rfl : j = n := by omega
      rw [hg, e]; simp
theorem metR_first {op a b c d s : Int} {m0 : Bool} (h : m0 = true) : metR op a b c d s m0 2 = true := metB_mono (metB_mono h)
theorem metR_at {op a b c d s : Int} {m0 : Bool} {i j : Nat} (hi : i < 2) (hj : j < 4) (hg : tryG op a b c d i j = true) (e : opR op (tryX a b i) (tryY c d j) = s) : metR op a b c d s m0 2 = true := by
  rcases (by omega : i = 0 ∨ i = 1) with rfl | rfl
  · exact metB_mono (metB_at hj hg e)
  · exact metB_at hj hg e
theorem okY_try {op c d y : Int} (hc : noneS c d = false) (hy : okY op c d y) : hasS c d y = true ∧ ∃ j, j < 4 ∧ tryY c d j = y := by
  have e := noneS_no hc
  obtain ⟨h, hz⟩ := hy
  refine ⟨(hasS_iff c d y).2 ⟨hc, by omega, by omega⟩, ?_⟩
  rcases h with rfl | rfl | h | h
  · exact ⟨0, by omega, rfl⟩
  · exact ⟨1, by omega, rfl⟩
  · exact ⟨3, by omega, by rw [h.2.2.2]; rfl⟩
  · exact ⟨2, by omega, by rw [h.2.2.2]; rfl⟩
theorem met_of {op a b c d x s : Int} {m0 : Bool} (hc : noneS c d = false) (hx : x ∈ endsL op a b c d) (hin : -1152921504606846976 ≤ x ∧ x ≤ 1152921504606846976) (e : x = s) : metR op a b c d s m0 2 = true := by
  obtain ⟨y, hy, hx⟩ := (mem_prog hc).1 hx
  obtain ⟨hh, j, hj, ej⟩ := okY_try hc hy
  have cin : ∀ n, x = cut n → inB n = true ∧ n = s := fun n h => by
    rcases cut_cases n with q | q | q
    · omega
    · omega
    · exact ⟨inB_yes (by omega) (by omega), by omega⟩
  have hg : ∀ i, inB (opR op (tryX a b i) y) = true → tryG op a b c d i j = true := fun i h => by
    unfold tryG
    rw [ej, h, hh]
    cases h3 : decide (op = 3) && decide (y = 0)
    · rfl
    · rw [Bool.and_eq_true, decide_eq_true_eq, decide_eq_true_eq] at h3
      exact absurd h3 hy.2
  rcases hx with hx | hx
  · obtain ⟨c1, c2⟩ := cin _ hx
    exact metR_at (i := 0) (by omega) hj (hg 0 c1) (by rw [ej]; exact c2)
  · obtain ⟨c1, c2⟩ := cin _ hx
    exact metR_at (i := 1) (by omega) hj (hg 1 c1) (by rw [ej]; exact c2)
/-- Both ends are met. -/
theorem reached {op a b c d : Int} (h0 : 0 ≤ op) (h3 : op ≤ 3) (ha : noneS a b = false) (hc : noneS c d = false) (hs : sameB (calcL op a b c d) (calcH op a b c d) 1 0 = false) :
    metR op a b c d (calcL op a b c d) (calcL op a b c d == -1152921504606846976) 2 = true ∧ metR op a b c d (calcH op a b c d) (calcH op a b c d == 1152921504606846976) 2 = true := by
  have no : ¬ calcNo op a b c d = true := by
    unfold calcNo
    rw [ha, hc, decide_eq_false (by omega : ¬ op < 0), decide_eq_false (by omega : ¬ 3 < op)]
    simp
  have eL : calcL op a b c d = hullL (endsF op a b c d) (endsL op a b c d).length := by unfold calcL; rw [if_neg no]
  have eH : calcH op a b c d = hullH (endsF op a b c d) (endsL op a b c d).length := by unfold calcH; rw [if_neg no]
  have hs' : ¬ (calcL op a b c d = 1 ∧ calcH op a b c d = 0) := fun x => by rw [(sameB_iff _ _ _ _).2 x] at hs; cases hs
  have len : (endsL op a b c d).length ≠ 0 := fun z => by
    rw [z] at eL eH
    exact hs' ⟨eL, eH⟩
  obtain ⟨n, hn⟩ : ∃ n, (endsL op a b c d).length = n + 1 := ⟨(endsL op a b c d).length - 1, by omega⟩
  rw [hn] at eL eH
  obtain ⟨i, hi, ei⟩ := mnF_in (endsF op a b c d) n
  obtain ⟨k, hk, ek⟩ := mxF_in (endsF op a b c d) n
  have mi : endsF op a b c d i ∈ endsL op a b c d := getD_in (by omega)
  have mk : endsF op a b c d k ∈ endsL op a b c d := getD_in (by omega)
  have eL' : calcL op a b c d = ofL (endsF op a b c d i) (endsF op a b c d k) := by rw [eL]; show ofL _ _ = _; rw [ei, ek]
  have eH' : calcH op a b c d = ofH (endsF op a b c d i) (endsF op a b c d k) := by rw [eH]; show ofH _ _ = _; rw [ei, ek]
  generalize calcL op a b c d = l at *
  generalize calcH op a b c d = h at *
  rcases of_cases (endsF op a b c d i) (endsF op a b c d k) with q | q
  · refine ⟨?_, ?_⟩
    · by_cases e : l = -1152921504606846976
      · exact metR_first (beq_iff_eq.2 e)
      · exact met_of hc mi (by omega) (by omega)
    · by_cases e : h = 1152921504606846976
      · exact metR_first (beq_iff_eq.2 e)
      · exact met_of hc mk (by omega) (by omega)
  · exact absurd ⟨by omega, by omega⟩ hs'
/-- One round more. -/
theorem met_no {op a b c d s : Int} {m0 : Bool} {i j : Nat} (h : tryG op a b c d i j = false) : metB op a b c d s m0 i (j + 1) = metB op a b c d s m0 i j := by
  show (metB op a b c d s m0 i j || _) = _; rw [h]; simp
theorem met_was {op a b c d s : Int} {m0 : Bool} {i j : Nat} (h : metB op a b c d s m0 i j = true) : metB op a b c d s m0 i (j + 1) = true := by
  show (metB op a b c d s m0 i j || _) = _; rw [h]; rfl
theorem met_try {op a b c d s : Int} {m0 : Bool} {i j : Nat} (h : metB op a b c d s m0 i j = false) (hg : tryG op a b c d i j = true) : metB op a b c d s m0 i (j + 1) = (opR op (tryX a b i) (tryY c d j) == s) := by
  show (metB op a b c d s m0 i j || _) = _; rw [h, hg]; rfl
/-- What is tried either comes to nothing, or to a number. -/
theorem try_cases {op a b c d : Int} (h0 : 0 ≤ op) (h3 : op ≤ 3) (ha : noneS a b = false) (hc : noneS c d = false) (i j : Nat) :
    (op = 3 ∧ tryY c d j = 0 ∧ inB (tryX a b i) = true ∧ tryG op a b c d i j = false) ∨
    (may op (tryX a b i) (tryY c d j) ∧ inB (opR op (tryX a b i) (tryY c d j)) = false ∧ tryG op a b c d i j = false) ∨
    (may op (tryX a b i) (tryY c d j) ∧ inB (opR op (tryX a b i) (tryY c d j)) = true ∧ hasS c d (tryY c d j) = false ∧ tryG op a b c d i j = false) ∨
    (may op (tryX a b i) (tryY c d j) ∧ inB (opR op (tryX a b i) (tryY c d j)) = true ∧ hasS c d (tryY c d j) = true ∧ tryG op a b c d i j = true) := by
  have ea := noneS_no ha
  have ec := noneS_no hc
  have hx : inB (tryX a b i) = true := by
    unfold tryX; split
    · exact inB_yes (by omega) (by omega)
    · exact inB_yes (by omega) (by omega)
  have hy : inB (tryY c d j) = true := by
    unfold tryY; split
    · exact inB_yes (by omega) (by omega)
    · split
      · exact inB_yes (by omega) (by omega)
      · split <;> decide
  by_cases hz : op = 3 ∧ tryY c d j = 0
  · exact Or.inl ⟨hz.1, hz.2, hx, by unfold tryG; rw [decide_eq_true hz.1, decide_eq_true hz.2]; rfl⟩
  · right
    have hm : may op (tryX a b i) (tryY c d j) := ⟨h0, h3, hx, hy, hz⟩
    have hn : (decide (op = 3) && decide (tryY c d j = 0)) = false := by
      cases e : decide (op = 3) && decide (tryY c d j = 0)
      · rfl
      · rw [Bool.and_eq_true, decide_eq_true_eq, decide_eq_true_eq] at e; exact absurd e hz
    cases h1 : inB (opR op (tryX a b i) (tryY c d j))
    · exact Or.inl ⟨hm, rfl, by unfold tryG; rw [hn, h1]; rfl⟩
    · right
      cases h2 : hasS c d (tryY c d j)
      · exact Or.inl ⟨hm, rfl, rfl, by unfold tryG; rw [hn, h1, h2]; rfl⟩
      · exact Or.inr ⟨hm, rfl, rfl, by unfold tryG; rw [hn, h1, h2]; rfl⟩
/-- If there is something, something was reckoned. -/
theorem calc_some_of {op a b c d : Int} (hs : sameB (calcL op a b c d) (calcH op a b c d) 1 0 = false) : 0 ≤ op ∧ op ≤ 3 ∧ noneS a b = false ∧ noneS c d = false := by
  have hn : ¬ calcNo op a b c d = true := fun h => by
    unfold calcL calcH at hs
    rw [if_pos h, if_pos h] at hs
    cases hs
  unfold calcNo at hn
  simp only [Bool.or_eq_true, decide_eq_true_eq, not_or, Bool.not_eq_true] at hn
  exact ⟨by omega, by omega, hn.1, hn.2.1⟩
end Go.Proofs.YtkgdonoilpkiiaaDoor
