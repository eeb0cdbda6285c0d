/- ZoneWidens: what the program makes of two right zones has the points that the document makes, and more than either. Nothing of the program stands here. -/
import Derived.Test.YtlkbapcienjdcaaDoorGNums
import Derived.Test.YtlkbapcienjdcaaDoorGMoves
import Derived.Test.YtlkbapcienjdcaaDoorGSets
namespace Go.Proofs.YtlkbapcienjdcaaDoor
open Go.RowKit

section
variable {m n i j : Nat} {C B : Mat} {f : Nat → Int} {p : Nat → Int}
theorem closed_span (hC : Closed m C) (h0 : 0 < m) (hi : i < m) : -1152921504606846976 ≤ -C 0 i ∧ C i 0 ≤ 1152921504606846976 ∧ -C 0 i ≤ C i 0 := by
  have h1 := hC.near i 0 hi h0
  have h2 := hC.near 0 i h0 hi
  have h3 := hC.tri i 0 0 hi h0 h0
  have h4 := hC.diag 0 h0
  have f1 : far i 0 ≤ 1152921504606846976 := by rcases far_cases i 0 with q | q | q <;> omega
  have f2 : far 0 i ≤ 1152921504606846976 := by rcases far_cases 0 i with q | q | q <;> omega
  omega
/-- The ends of variable i's span, widened. -/
def wL (f : Nat → Int) (n : Nat) (C B : Mat) (i : Nat) : Int := widL f n (-C 0 i) (C i 0) (-B 0 i) (B i 0)
def wH (f : Nat → Int) (n : Nat) (C B : Mat) (i : Nat) : Int := widH f n (-C 0 i) (C i 0) (-B 0 i) (B i 0)
theorem some_span {a b : Int} (h1 : -1152921504606846976 ≤ a) (h2 : b ≤ 1152921504606846976) (h3 : a ≤ b) : noneS a b = false ∧ tkL a b = a ∧ tkH a b = b := by
  have hr := (rightS_iff a b).2 (.inr ⟨h1, h2, h3⟩)
  obtain ⟨e1, e2⟩ := tk_of_right hr
  refine ⟨?_, e1, e2⟩
  cases c : noneS a b
  · rfl
  · have := noneS_yes c
    omega
theorem w_facts (hC : Closed m C) (hB : Closed m B) (h0 : 0 < m) (hi : i < m) : -1152921504606846976 ≤ wL f n C B i ∧ wL f n C B i ≤ -C 0 i ∧ wL f n C B i ≤ -B 0 i ∧ C i 0 ≤ wH f n C B i ∧ B i 0 ≤ wH f n C B i ∧ wH f n C B i ≤ 1152921504606846976 := by
  obtain ⟨a1, a2, a3⟩ := closed_span hC h0 hi
  obtain ⟨b1, b2, b3⟩ := closed_span hB h0 hi
  obtain ⟨n1, e1, e2⟩ := some_span a1 a2 a3
  obtain ⟨n2, e3, e4⟩ := some_span b1 b2 b3
  unfold wL wH widL widH
  cases hl : leqS (-B 0 i) (B i 0) (-C 0 i) (C i 0)
  · rw [n1]
    simp only [Bool.false_eq_true, if_false]
    unfold wloZ whiZ
    rw [e1, e2, e3, e4]
    have d1 := dnF_bd f (-B 0 i) b1 n
    have d2 := upF_bd f (B i 0) b2 n
    constructor
    · split <;> omega
    · refine ⟨?_, ?_, ?_, ?_, ?_⟩ <;> split <;> omega
  · simp only [if_true]
    rw [e1, e2]
    have hq := (leqS_iff _ _ _ _).1 hl
    rw [e1, e2, e3, e4] at hq
    omega
theorem w_zero (hC : Closed m C) (hB : Closed m B) (h0 : 0 < m) : wL f n C B 0 = 0 ∧ wH f n C B 0 = 0 := by
  have c0 := hC.diag 0 h0
  have b0 := hB.diag 0 h0
  unfold wL wH
  rw [c0, b0]
  have e : leqS (-0) 0 (-0) 0 = true := by decide
  unfold widL widH
  rw [if_pos e, if_pos e]
  exact ⟨by decide, by decide⟩
/-- Did variable i's span grow? -/
def farB (f : Nat → Int) (n : Nat) (C B : Mat) (i : Nat) : Bool := !(wL f n C B i == -C 0 i && wH f n C B i == C i 0)
theorem farB_no {i : Nat} : farB f n C B i = false ↔ wL f n C B i = -C 0 i ∧ wH f n C B i = C i 0 := by
  unfold farB
  rw [Bool.not_eq_false', Bool.and_eq_true, beq_iff_eq, beq_iff_eq]
/-- Variable k has moved: its span grew, or a bound between two whose spans did not. -/
def Mv (m : Nat) (f : Nat → Int) (n : Nat) (C B : Mat) (k : Nat) : Prop := farB f n C B k = true ∨ ∃ i j, i < m ∧ j < m ∧ farB f n C B i = false ∧ farB f n C B j = false ∧ C i j < B i j ∧ (k = i ∨ k = j)
/-- No bound of such two with variable 0 grew. -/
theorem mv_pos (hC : Closed m C) (hB : Closed m B) (h0 : 0 < m) (hi : i < m) (hj : j < m) (fi : farB f n C B i = false) (fj : farB f n C B j = false) (h : C i j < B i j) : 1 ≤ i ∧ 1 ≤ j := by
  have wi := w_facts (f := f) (n := n) hC hB h0 hi
  have wj := w_facts (f := f) (n := n) hC hB h0 hj
  have gi := farB_no.1 fi
  have gj := farB_no.1 fj
  constructor
  · by_cases e : i = 0
    · subst e; omega
    · omega
  · by_cases e : j = 0
    · subst e; omega
    · omega
theorem farB_zero (hC : Closed m C) (hB : Closed m B) (h0 : 0 < m) : farB f n C B 0 = false := by
  have c0 := hC.diag 0 h0
  have w := w_zero (f := f) (n := n) hC hB h0
  exact farB_no.2 (by omega)
theorem mv_zero (hC : Closed m C) (hB : Closed m B) (h0 : 0 < m) : ¬ Mv m f n C B 0 := by
  rintro (h | ⟨i, j, hi, hj, fi, fj, hlt, hk⟩)
  · rw [farB_zero hC hB h0] at h; cases h
  · have := mv_pos hC hB h0 hi hj fi fj hlt
    omega
/-- The points of the widened. -/
structure WPt (m : Nat) (f : Nat → Int) (n : Nat) (C B : Mat) (p : Nat → Int) : Prop where
  zero : p 0 = 0
  whole : ∀ a, a < m → -1152921504606846976 ≤ p a ∧ p a ≤ 1152921504606846976
  span : ∀ a, a < m → wL f n C B a ≤ p a ∧ p a ≤ wH f n C B a
  rest : ∀ a b, a < m → b < m → ¬ Mv m f n C B a → ¬ Mv m f n C B b → p a - p b ≤ C a b
/-- What the program fills in. -/
def prM (mv : Nat → Bool) (f : Nat → Int) (n : Nat) (C B : Mat) : Mat := fun i j => if j = 0 then wH f n C B i else if i = 0 then -wL f n C B j else if (mv i || mv j) = true then 4611686018427387904 else C i j
theorem pt_prM {mv : Nat → Bool} (hmv : ∀ k, k < m → (mv k = true ↔ Mv m f n C B k)) (hC : Closed m C) (hB : Closed m B) (h0 : 0 < m) : Pt m (prM mv f n C B) p ↔ WPt m f n C B p := by
  constructor
  · intro h
    have hs : ∀ a, a < m → wL f n C B a ≤ p a ∧ p a ≤ wH f n C B a := fun a ha => by
      have z := h.zero
      have h1 := h.holds a 0 ha h0
      have h2 := h.holds 0 a h0 ha
      have w := w_zero (f := f) (n := n) hC hB h0
      unfold prM at h1 h2
      rw [if_pos rfl] at h1
      by_cases e : a = 0
      · subst e; omega
      · rw [if_neg e, if_pos rfl] at h2
        omega
    refine ⟨h.zero, h.whole, hs, fun a b ha hb na nb => ?_⟩
    by_cases e1 : b = 0
    · subst e1
      have fa : farB f n C B a = false := by cases q : farB f n C B a; rfl; exact absurd (.inl q) na
      have := farB_no.1 fa
      have := hs a ha
      have := h.zero
      omega
    · by_cases e2 : a = 0
      · subst e2
        have fb : farB f n C B b = false := by cases q : farB f n C B b; rfl; exact absurd (.inl q) nb
        have := farB_no.1 fb
        have := hs b hb
        have := h.zero
        omega
      · have h1 := h.holds a b ha hb
        unfold prM at h1
        have m1 : mv a = false := by cases q : mv a; rfl; exact absurd ((hmv a ha).1 q) na
        have m2 : mv b = false := by cases q : mv b; rfl; exact absurd ((hmv b hb).1 q) nb
        rw [if_neg e1, if_neg e2, m1, m2] at h1
        exact h1
  · intro h
    refine ⟨h.zero, h.whole, fun a b ha hb => ?_⟩
    have z := h.zero
    have sa := h.span a ha
    have sb := h.span b hb
    have wa := h.whole a ha
    have wb := h.whole b hb
    unfold prM
    by_cases e1 : b = 0
    · subst e1; rw [if_pos rfl]; omega
    · rw [if_neg e1]
      by_cases e2 : a = 0
      · subst e2; rw [if_pos rfl]; omega
      · rw [if_neg e2]
        cases q1 : mv a
        · cases q2 : mv b
          · exact h.rest a b ha hb (fun q => by rw [(hmv a ha).2 q] at q1; cases q1) (fun q => by rw [(hmv b hb).2 q] at q2; cases q2)
          · rw [if_pos (by simp)]; omega
        · rw [if_pos (by simp)]; omega
/-- What the document sets, of bounds that are far at first. -/
def drM (mv : Nat → Bool) (f : Nat → Int) (n : Nat) (C B : Mat) : Mat := fun i j => if i = j then far i j else if j = 0 then min (far i j) (wH f n C B i) else if i = 0 then min (far i j) (-wL f n C B j) else if (mv i || mv j) = true then far i j else min (far i j) (C i j)
theorem pt_drM {mv : Nat → Bool} (hmv : ∀ k, k < m → (mv k = true ↔ Mv m f n C B k)) (hC : Closed m C) (hB : Closed m B) (h0 : 0 < m) : Pt m (drM mv f n C B) p ↔ WPt m f n C B p := by
  rw [← pt_prM hmv hC hB h0]
  have hw := w_zero (f := f) (n := n) hC hB h0
  constructor
  · intro h
    refine ⟨h.zero, h.whole, fun a b ha hb => ?_⟩
    have h1 := h.holds a b ha hb
    have wa := h.whole a ha
    have wb := h.whole b hb
    have z := h.zero
    unfold drM at h1
    unfold prM
    by_cases e : a = b
    · subst e
      by_cases e0 : a = 0
      · subst e0; rw [if_pos rfl]; omega
      · rw [if_neg e0, if_neg e0]
        split
        · omega
        · have := hC.diag a ha; omega
    · rw [if_neg e] at h1
      by_cases e1 : b = 0
      · rw [if_pos e1] at h1 ⊢; omega
      · rw [if_neg e1] at h1 ⊢
        by_cases e2 : a = 0
        · rw [if_pos e2] at h1 ⊢; omega
        · rw [if_neg e2] at h1 ⊢
          by_cases e3 : (mv a || mv b) = true
          · rw [if_pos e3]; omega
          · rw [if_neg e3] at h1 ⊢; omega
  · intro h
    refine ⟨h.zero, h.whole, fun a b ha hb => ?_⟩
    have h1 := h.holds a b ha hb
    have wa := h.whole a ha
    have wb := h.whole b hb
    have z := h.zero
    unfold prM at h1
    unfold drM
    have hf : p a - p b ≤ far a b := by
      rcases far_cases a b with q | q | q
      · obtain ⟨rfl, q⟩ := q; omega
      · rcases q.2.1 with rfl | rfl <;> omega
      · omega
    by_cases e : a = b
    · rw [if_pos e]; exact hf
    · rw [if_neg e]
      by_cases e1 : b = 0
      · rw [if_pos e1] at h1 ⊢; omega
      · rw [if_neg e1] at h1 ⊢
        by_cases e2 : a = 0
        · rw [if_pos e2] at h1 ⊢; omega
        · rw [if_neg e2] at h1 ⊢
          by_cases e3 : (mv a || mv b) = true
          · rw [if_pos e3]; exact hf
          · rw [if_neg e3] at h1 ⊢; omega
theorem widen_same {mv : Nat → Bool} (hmv : ∀ k, k < m → (mv k = true ↔ Mv m f n C B k)) (hC : Closed m C) (hB : Closed m B) (h0 : 0 < m) : SameO m (setR m (drM mv f n C B)) (setR m (prM mv f n C B)) :=
  setR_pts h0 fun _ => (pt_drM hmv hC hB h0).trans (pt_prM hmv hC hB h0).symm
/-- Both are in it. -/
theorem wpt_left (hC : Closed m C) (hB : Closed m B) (h0 : 0 < m) (h : Pt m C p) : WPt m f n C B p := by
  have z := h.zero
  refine ⟨z, h.whole, fun a ha => ?_, fun a b ha hb _ _ => h.holds a b ha hb⟩
  have w := w_facts (f := f) (n := n) hC hB h0 ha
  have h1 := h.holds a 0 ha h0
  have h2 := h.holds 0 a h0 ha
  omega
theorem wpt_right (hC : Closed m C) (hB : Closed m B) (h0 : 0 < m) (h : Pt m B p) : WPt m f n C B p := by
  have z := h.zero
  refine ⟨z, h.whole, fun a ha => ?_, fun a b ha hb na nb => ?_⟩
  · have w := w_facts (f := f) (n := n) hC hB h0 ha
    have h1 := h.holds a 0 ha h0
    have h2 := h.holds 0 a h0 ha
    omega
  · have h1 := h.holds a b ha hb
    by_cases q : C a b < B a b
    · exfalso
      have fa : farB f n C B a = false := by cases q : farB f n C B a; rfl; exact absurd (.inl q) na
      have fb : farB f n C B b = false := by cases q : farB f n C B b; rfl; exact absurd (.inl q) nb
      exact na (.inr ⟨a, b, ha, hb, fa, fb, q, .inl rfl⟩)
    · omega
theorem widen_alive {mv : Nat → Bool} (hmv : ∀ k, k < m → (mv k = true ↔ Mv m f n C B k)) (hC : Closed m C) (hB : Closed m B) (h0 : 0 < m) : Alive m (prM mv f n C B) :=
  (alive_pt ((pt_prM hmv hC hB h0).2 (wpt_left hC hB h0 (pt_col hC h0 h0)))).1
theorem widen_left {mv : Nat → Bool} (hmv : ∀ k, k < m → (mv k = true ↔ Mv m f n C B k)) (hC : Closed m C) (hB : Closed m B) (h0 : 0 < m) : ∀ i j, i < m → j < m → C i j ≤ lev (prM mv f n C B) m i j :=
  le_of_pts hC h0 fun _ hp => (alive_pt ((pt_prM hmv hC hB h0).2 (wpt_left hC hB h0 hp))).2
theorem widen_right {mv : Nat → Bool} (hmv : ∀ k, k < m → (mv k = true ↔ Mv m f n C B k)) (hC : Closed m C) (hB : Closed m B) (h0 : 0 < m) : ∀ i j, i < m → j < m → B i j ≤ lev (prM mv f n C B) m i j :=
  le_of_pts hB h0 fun _ hp => (alive_pt ((pt_prM hmv hC hB h0).2 (wpt_right hC hB h0 hp))).2
/-- Which variables were found to have moved, behind the first t cells. -/
def mvS (m : Nat) (f : Nat → Int) (n : Nat) (C B : Mat) : Nat → Nat → Bool
  | 0 => fun k => farB f n C B k
  | t + 1 => fun k => if (!farB f n C B (t / m) && (!farB f n C B (t % m) && decide (C (t / m) (t % m) < B (t / m) (t % m)))) = true ∧ (k = t / m ∨ k = t % m) then true else mvS m f n C B t k
theorem mvS_iff (t k : Nat) : mvS m f n C B t k = true ↔ farB f n C B k = true ∨ ∃ s, s < t ∧ (farB f n C B (s / m) = false ∧ farB f n C B (s % m) = false ∧ C (s / m) (s % m) < B (s / m) (s % m)) ∧ (k = s / m ∨ k = s % m) := by
  induction t with
  | zero => exact ⟨.inl, fun h => h.elim id fun ⟨s, hs, _⟩ => absurd hs (Nat.not_lt_zero _)⟩
  | succ t ih =>
    have e : mvS m f n C B (t + 1) k = if (!farB f n C B (t / m) && (!farB f n C B (t % m) && decide (C (t / m) (t % m) < B (t / m) (t % m)))) = true ∧ (k = t / m ∨ k = t % m) then true else mvS m f n C B t k := rfl
    rw [e]
    by_cases c : (!farB f n C B (t / m) && (!farB f n C B (t % m) && decide (C (t / m) (t % m) < B (t / m) (t % m)))) = true ∧ (k = t / m ∨ k = t % m)
    · rw [if_pos c]
      simp only [true_iff]
      have c1 := c.1
      simp only [Bool.and_eq_true, Bool.not_eq_true', decide_eq_true_eq] at c1
      exact .inr ⟨t, by omega, c1, c.2⟩
    · rw [if_neg c, ih]
      constructor
      · rintro (h | ⟨s, hs, h⟩)
        · exact .inl h
        · exact .inr ⟨s, by omega, h⟩
      · rintro (h | ⟨s, hs, h, hk⟩)
        · exact .inl h
        · by_cases es : s = t
          · subst es
            exact absurd ⟨by simp only [Bool.and_eq_true, Bool.not_eq_true', decide_eq_true_eq]; exact h, hk⟩ c
          · exact .inr ⟨s, by omega, h, hk⟩
theorem mvS_all (h0 : 0 < m) (k : Nat) : mvS m f n C B (m * m) k = true ↔ Mv m f n C B k := by
  rw [mvS_iff]
  constructor
  · rintro (h | ⟨s, hs, ⟨h1, h2, h3⟩, hk⟩)
    · exact .inl h
    · exact .inr ⟨s / m, s % m, Nat.div_lt_of_lt_mul hs, Nat.mod_lt _ h0, h1, h2, h3, hk⟩
  · rintro (h | ⟨i, j, hi, hj, h1, h2, h3, hk⟩)
    · exact .inl h
    · refine .inr ⟨i * m + j, spot_lt hi hj, ?_⟩
      rw [Nat.mul_comm i m, Nat.mul_add_div h0, Nat.mul_add_mod, Nat.div_eq_of_lt hj, Nat.mod_eq_of_lt hj, Nat.add_zero]
      exact ⟨⟨h1, h2, h3⟩, hk⟩
end
end Go.Proofs.YtlkbapcienjdcaaDoor
