/- Put together of: RestsMath, RestsB, RestsW. -/
import Derived.Test.YtlkbapcienjdcaaDoorWidensMathZ
import Derived.Test.YtlkbapcienjdcaaDoorGNums
import Derived.Test.YtlkbapcienjdcaaDoorGWide
import Derived.Test.YtlkbapcienjdcaaDoorZRowArg
import Derived.Test.YtlkbapcienjdcaaDoorGRef
import Derived.Test.YtlkbapcienjdcaaDoorEqual
import Derived.Test.YtlkbapcienjdcaaDoorGSmall
import Derived.Test.YtlkbapcienjdcaaDoorZAlive
import Derived.BigRegion
import Derived.Deep.RegionHeld
/- ZoneRests: how often a right zone can be widened: each change lowers a number that is bounded by the steps and the variables. Nothing of the program stands here. -/
namespace Go.Proofs.YtlkbapcienjdcaaDoor
open Go.RowKit

section
variable {m n i j : Nat} {C B : Mat} {f : Nat → Int} {mv : Nat → Bool}
/-- What is widened, bound by bound. -/
def wX (mv : Nat → Bool) (f : Nat → Int) (n : Nat) (C B : Mat) : Mat := fun i j => if i = j then 0 else if mv i = true ∨ mv j = true ∨ i = 0 ∨ j = 0 then wH f n C B i - wL f n C B j else C i j
theorem wX_diag (i : Nat) : wX mv f n C B i i = 0 := if_pos rfl
theorem wX_loose (h : mv i = true ∨ mv j = true ∨ i = 0 ∨ j = 0) (e : i ≠ j) : wX mv f n C B i j = wH f n C B i - wL f n C B j := (if_neg e).trans (if_pos h)
theorem wX_kept (h : ¬ (mv i = true ∨ mv j = true ∨ i = 0 ∨ j = 0)) (e : i ≠ j) : wX mv f n C B i j = C i j := (if_neg e).trans (if_neg h)
theorem still_far (hmv : ∀ k, k < m → (mv k = true ↔ Mv m f n C B k)) (hi : i < m) (h : ¬ mv i = true) : wL f n C B i = -C 0 i ∧ wH f n C B i = C i 0 := by
  refine farB_no.1 ?_
  cases q : farB f n C B i
  · rfl
  · exact absurd ((hmv i hi).2 (.inl q)) h
theorem wX_le (hmv : ∀ k, k < m → (mv k = true ↔ Mv m f n C B k)) (hC : Closed m C) (hB : Closed m B) (h0 : 0 < m) (hi : i < m) (hj : j < m) : wX mv f n C B i j ≤ wH f n C B i - wL f n C B j := by
  by_cases e : i = j
  · subst e
    rw [wX_diag]
    have := w_facts (f := f) (n := n) hC hB h0 hi
    have := closed_span hC h0 hi
    omega
  · by_cases h : mv i = true ∨ mv j = true ∨ i = 0 ∨ j = 0
    · rw [wX_loose h e]; omega
    · rw [wX_kept h e]
      have a := still_far hmv hi (fun q => h (.inl q))
      have b := still_far hmv hj (fun q => h (.inr (.inl q)))
      have := hC.tri 0 i j h0 hi hj
      omega
theorem wX_closed (hmv : ∀ k, k < m → (mv k = true ↔ Mv m f n C B k)) (hC : Closed m C) (hB : Closed m B) (h0 : 0 < m) : Closed m (wX mv f n C B) := by
  have hw0 := w_zero (f := f) (n := n) hC hB h0
  refine ⟨fun i hi => wX_diag i, fun i j hi hj => ?_, fun k i j hk hi hj => ?_⟩
  · have hl := wX_le hmv hC hB h0 hi hj
    have wi := w_facts (f := f) (n := n) hC hB h0 hi
    have wj := w_facts (f := f) (n := n) hC hB h0 hj
    rcases far_cases i j with ⟨e, q⟩ | ⟨e, q1 | q1, q⟩ | ⟨e, q1, q2, q⟩
    · rw [← e, wX_diag]; have := far_same i; omega
    · subst q1; omega
    · subst q1; omega
    · omega
  · have hl := wX_le hmv hC hB h0 hi hj
    by_cases eik : i = k
    · subst eik; rw [wX_diag]; omega
    by_cases ekj : k = j
    · subst ekj; rw [wX_diag]; omega
    have wi := w_facts (f := f) (n := n) hC hB h0 hi
    have wj := w_facts (f := f) (n := n) hC hB h0 hj
    have wk := w_facts (f := f) (n := n) hC hB h0 hk
    have sk := closed_span hC h0 hk
    by_cases h1 : mv i = true ∨ mv k = true ∨ i = 0 ∨ k = 0
    · rw [wX_loose h1 eik]
      by_cases h2 : mv k = true ∨ mv j = true ∨ k = 0 ∨ j = 0
      · rw [wX_loose h2 ekj]; omega
      · rw [wX_kept h2 ekj]
        have a := still_far hmv hk (fun q => h2 (.inl q))
        have b := still_far hmv hj (fun q => h2 (.inr (.inl q)))
        have := hC.tri k 0 j hk h0 hj
        omega
    · rw [wX_kept h1 eik]
      have a := still_far hmv hi (fun q => h1 (.inl q))
      have b := still_far hmv hk (fun q => h1 (.inr (.inl q)))
      by_cases h2 : mv k = true ∨ mv j = true ∨ k = 0 ∨ j = 0
      · rw [wX_loose h2 ekj]
        have := hC.tri k i 0 hk hi h0
        omega
      · rw [wX_kept h2 ekj]
        have t := hC.tri k i j hk hi hj
        by_cases e : i = j
        · subst e
          rw [wX_diag]
          have := hC.diag i hi
          omega
        · rw [wX_kept (fun q => by rcases q with q | q | q | q; exact h1 (.inl q); exact h2 (.inr (.inl q)); exact h1 (.inr (.inr (.inl q))); exact h2 (.inr (.inr (.inr q)))) e]
          omega
theorem wX_pr (hmv : ∀ k, k < m → (mv k = true ↔ Mv m f n C B k)) (hC : Closed m C) (hB : Closed m B) (h0 : 0 < m) : Same m (lev (prM mv f n C B) m) (wX mv f n C B) := by
  have hw0 := w_zero (f := f) (n := n) hC hB h0
  have hX := wX_closed (n := n) (f := f) (B := B) hmv hC hB h0
  have hle : ∀ i j, i < m → j < m → wX mv f n C B i j ≤ prM mv f n C B i j := fun i j hi hj => by
    have hl := wX_le hmv hC hB h0 hi hj
    have hd := hX.near i j hi hj
    have hf := far_nonneg i j
    unfold prM
    split
    · next e => subst e; omega
    · next e =>
      split
      · next e2 => subst e2; omega
      · next e2 =>
        by_cases q : (mv i || mv j) = true
        · rw [if_pos q]; omega
        · rw [if_neg q]
          by_cases e3 : i = j
          · subst e3
            rw [wX_diag]
            have := hC.diag i hi
            omega
          · rw [wX_kept (fun q2 => by rcases q2 with a | a | a | a; exact q (by rw [a]; rfl); exact q (by rw [a, Bool.or_true]); exact e2 a; exact e a) e3]
            omega
  have hA := alive_of hX hle
  have hL := lev_closed hA
  have hc : ∀ i j, lev (prM mv f n C B) m i j ≤ prM mv f n C B i j := fun i j => Int.le_trans (lev_le_cap _ m i j) (cap_le _ i j).1
  intro i j hi hj
  have g := lev_greatest hX hle m (Nat.le_refl _) i j hi hj
  refine Int.le_antisymm ?_ g
  by_cases e : i = j
  · subst e
    rw [wX_diag]
    have := hL.diag i hi
    omega
  · by_cases h : mv i = true ∨ mv j = true ∨ i = 0 ∨ j = 0
    · rw [wX_loose h e]
      have t := hL.tri 0 i j h0 hi hj
      have a := hc i 0
      have b : lev (prM mv f n C B) m 0 j ≤ -wL f n C B j := by
        by_cases e0 : j = 0
        · subst e0
          have := hL.diag 0 h0
          omega
        · have b := hc 0 j
          have q : prM mv f n C B 0 j = -wL f n C B j := (if_neg e0).trans (if_pos rfl)
          omega
      have q : prM mv f n C B i 0 = wH f n C B i := if_pos rfl
      omega
    · rw [wX_kept h e]
      have a := hc i j
      have q : prM mv f n C B i j = C i j := (if_neg (fun q => h (.inr (.inr (.inr q))))).trans ((if_neg (fun q => h (.inr (.inr (.inl q))))).trans (if_neg (fun q => by rcases Bool.or_eq_true_iff.1 q with q | q; exact h (.inl q); exact h (.inr (.inl q)))))
      omega
theorem wH_in (hC : Closed m C) (hB : Closed m B) (h0 : 0 < m) (hi : i < m) (h : C i 0 < wH f n C B i) : wH f n C B i = 1152921504606846976 ∨ ∃ j, j < n ∧ wH f n C B i = f j := by
  obtain ⟨a1, a2, a3⟩ := closed_span hC h0 hi
  obtain ⟨b1, b2, b3⟩ := closed_span hB h0 hi
  obtain ⟨n1, e1, e2⟩ := some_span a1 a2 a3
  obtain ⟨n2, e3, e4⟩ := some_span b1 b2 b3
  unfold wH widH at h ⊢
  cases hl : leqS (-B 0 i) (B i 0) (-C 0 i) (C i 0)
  · rw [hl, n1] at h
    rw [n1]
    simp only [Bool.false_eq_true, if_false] at h ⊢
    unfold whiZ at h ⊢
    rw [e2, e4] at h ⊢
    by_cases c : C i 0 < B i 0
    · rw [if_pos c]; exact upF_in f (B i 0) n
    · rw [if_neg c] at h; omega
  · rw [hl, if_pos rfl, e2] at h; omega
theorem wL_in (hC : Closed m C) (hB : Closed m B) (h0 : 0 < m) (hi : i < m) (h : wL f n C B i < -C 0 i) : wL f n C B i = -1152921504606846976 ∨ ∃ j, j < n ∧ wL f n C B i = f j := by
  obtain ⟨a1, a2, a3⟩ := closed_span hC h0 hi
  obtain ⟨b1, b2, b3⟩ := closed_span hB h0 hi
  obtain ⟨n1, e1, e2⟩ := some_span a1 a2 a3
  obtain ⟨n2, e3, e4⟩ := some_span b1 b2 b3
  unfold wL widL at h ⊢
  cases hl : leqS (-B 0 i) (B i 0) (-C 0 i) (C i 0)
  · rw [hl, n1] at h
    rw [n1]
    simp only [Bool.false_eq_true, if_false] at h ⊢
    unfold wloZ at h ⊢
    rw [e1, e3] at h ⊢
    by_cases c : -B 0 i < -C 0 i
    · rw [if_pos c]; exact dnF_in f (-B 0 i) n
    · rw [if_neg c] at h; omega
  · rw [hl, if_pos rfl, e1] at h; omega
/-- The sum of the first k. -/
def sumN (g : Nat → Nat) : Nat → Nat
  | 0 => 0
  | k + 1 => sumN g k + g k
theorem sumN_le {g h : Nat → Nat} : ∀ k, (∀ i, i < k → g i ≤ h i) → sumN g k ≤ sumN h k
  | 0, _ => Nat.le_refl _
  | k + 1, H => Nat.add_le_add (sumN_le k fun i hi => H i (by omega)) (H k (by omega))
theorem sumN_lt {g h : Nat → Nat} : ∀ k, (∀ i, i < k → g i ≤ h i) → (∃ i, i < k ∧ g i + 1 ≤ h i) → sumN g k + 1 ≤ sumN h k
  | 0, _, ⟨i, hi, _⟩ => absurd hi (Nat.not_lt_zero _)
  | k + 1, H, ⟨i, hi, hl⟩ => by
    show sumN g k + g k + 1 ≤ sumN h k + h k
    by_cases e : i = k
    · subst e
      have := sumN_le i fun a ha => H a (by omega)
      omega
    · have := sumN_lt k (fun a ha => H a (by omega)) ⟨i, by omega, hl⟩
      have := H k (by omega)
      omega
theorem sumN_bd {g : Nat → Nat} {c : Nat} : ∀ k, (∀ i, i < k → g i ≤ c) → sumN g k ≤ k * c
  | 0, _ => Nat.zero_le _
  | k + 1, H => by
    have a := sumN_bd k fun i hi => H i (by omega)
    have b := H k (by omega)
    show sumN g k + g k ≤ (k + 1) * c
    rw [Nat.succ_mul]; omega
/-- How much the ends of a variable can move yet. -/
def endsR (f : Nat → Int) (n : Nat) (C : Mat) (k : Nat) : Nat := cl f (-C 0 (k + 1)) n + ch f (C (k + 1) 0) n
/-- Does a bound between two say more than their spans? -/
def tightR (C : Mat) (i j : Nat) : Nat := if i ≠ j ∧ C (i + 1) (j + 1) < C (i + 1) 0 + C 0 (j + 1) then 1 else 0
/-- What is left to change, of v variables. -/
def leftR (f : Nat → Int) (n v : Nat) (C : Mat) : Nat := sumN (endsR f n C) v + sumN (fun i => sumN (tightR C i) v) v
theorem leftR_bd (f : Nat → Int) (n v : Nat) (C : Mat) : leftR f n v C ≤ v * (2 * (n + 1)) + v * (v * 1) := by
  refine Nat.add_le_add (sumN_bd v fun i _ => ?_) (sumN_bd v fun i _ => sumN_bd v fun j _ => ?_)
  · have := cl_le f (-C 0 (i + 1)) n
    have := ch_le f (C (i + 1) 0) n
    unfold endsR; omega
  · unfold tightR; split <;> omega
theorem left_step (hmv : ∀ k, k < m → (mv k = true ↔ Mv m f n C B k)) (hC : Closed m C) (hB : Closed m B) (h0 : 0 < m) (hn : leB m B C = false) : leftR f n (m - 1) (lev (prM mv f n C B) m) + 1 ≤ leftR f n (m - 1) C := by
  have hS := wX_pr (n := n) (f := f) (B := B) hmv hC hB h0
  have hw0 := w_zero (f := f) (n := n) hC hB h0
  generalize lev (prM mv f n C B) m = L at *
  have hH : ∀ i, i + 1 < m → L (i + 1) 0 = wH f n C B (i + 1) := fun i hi => by
    rw [hS _ _ hi h0, wX_loose (.inr (.inr (.inr rfl))) (by omega)]; omega
  have hLo : ∀ i, i + 1 < m → L 0 (i + 1) = -wL f n C B (i + 1) := fun i hi => by
    rw [hS _ _ h0 hi, wX_loose (.inr (.inr (.inl rfl))) (by omega)]; omega
  have E : ∀ i, i < m - 1 → endsR f n L i ≤ endsR f n C i := fun i hi => by
    have w := w_facts (f := f) (n := n) hC hB h0 (show i + 1 < m by omega)
    unfold endsR
    rw [hH i (by omega), hLo i (by omega), Int.neg_neg]
    have := cl_mono f (show wL f n C B (i + 1) ≤ -C 0 (i + 1) by omega) n
    have := ch_mono f (show C (i + 1) 0 ≤ wH f n C B (i + 1) by omega) n
    omega
  have T : ∀ i, i < m - 1 → ∀ j, j < m - 1 → tightR L i j ≤ tightR C i j := fun i hi j hj => by
    unfold tightR
    by_cases e : i = j
    · rw [if_neg (fun q => q.1 e)]; omega
    · rw [hH i (by omega), hLo j (by omega), hS _ _ (show i + 1 < m by omega) (show j + 1 < m by omega)]
      by_cases h : mv (i + 1) = true ∨ mv (j + 1) = true ∨ i + 1 = 0 ∨ j + 1 = 0
      · rw [wX_loose h (by omega), if_neg (fun q => by omega)]; omega
      · rw [wX_kept h (by omega)]
        have a := still_far hmv (show i + 1 < m by omega) (fun q => h (.inl q))
        have b := still_far hmv (show j + 1 < m by omega) (fun q => h (.inr (.inl q)))
        rw [a.2, b.1, Int.neg_neg]
        omega
  have T2 : ∀ i, i < m - 1 → sumN (tightR L i) (m - 1) ≤ sumN (tightR C i) (m - 1) := fun i hi => sumN_le _ fun j hj => T i hi j hj
  by_cases hf : ∃ i, i < m ∧ farB f n C B i = true
  · obtain ⟨i, hi, hfi⟩ := hf
    have i0 : i ≠ 0 := fun e => by subst e; rw [farB_zero hC hB h0] at hfi; cases hfi
    have hq := sumN_lt (g := endsR f n L) (h := endsR f n C) (m - 1) E ⟨i - 1, by omega, by
      obtain ⟨k, rfl⟩ : ∃ k, i = k + 1 := ⟨i - 1, by omega⟩
      rw [Nat.add_sub_cancel]
      have w := w_facts (f := f) (n := n) hC hB h0 hi
      unfold endsR
      rw [hH k hi, hLo k hi, Int.neg_neg]
      have c1 := cl_mono f (show wL f n C B (k + 1) ≤ -C 0 (k + 1) by omega) n
      have c2 := ch_mono f (show C (k + 1) 0 ≤ wH f n C B (k + 1) by omega) n
      by_cases a : wL f n C B (k + 1) < -C 0 (k + 1)
      · have := cl_less f a n (wL_in hC hB h0 hi a)
        omega
      · by_cases b : C (k + 1) 0 < wH f n C B (k + 1)
        · have := ch_less f b n (wH_in hC hB h0 hi b)
          omega
        · have : farB f n C B (k + 1) = false := farB_no.2 ⟨by omega, by omega⟩
          rw [this] at hfi; cases hfi⟩
    have := sumN_le (m - 1) T2
    unfold leftR
    omega
  · have nf : ∀ i, i < m → farB f n C B i = false := fun i hi => by
      cases q : farB f n C B i
      · rfl
      · exact absurd ⟨i, hi, q⟩ hf
    have : ∃ i j, i < m ∧ j < m ∧ C i j < B i j := by
      refine Classical.byContradiction fun hno => ?_
      have : leB m B C = true := (leB_iff m B C).2 fun i j hi hj => by
        have : ¬ C i j < B i j := fun q => hno ⟨i, j, hi, hj, q⟩
        omega
      rw [this] at hn; cases hn
    obtain ⟨i, j, hi, hj, hlt⟩ := this
    obtain ⟨i1, j1⟩ := mv_pos hC hB h0 hi hj (nf i hi) (nf j hj) hlt
    have hmi : mv i = true := (hmv i hi).2 (.inr ⟨i, j, hi, hj, nf i hi, nf j hj, hlt, .inl rfl⟩)
    obtain ⟨a, rfl⟩ : ∃ k, i = k + 1 := ⟨i - 1, by omega⟩
    obtain ⟨b, rfl⟩ : ∃ k, j = k + 1 := ⟨j - 1, by omega⟩
    have hab : a ≠ b := fun e => by
      subst e
      have := hC.diag (a + 1) hi
      have := hB.diag (a + 1) hi
      omega
    have q := sumN_lt (g := fun i => sumN (tightR L i) (m - 1)) (h := fun i => sumN (tightR C i) (m - 1)) (m - 1) T2 ⟨a, by omega, sumN_lt (m - 1) (fun j hj => T a (by omega) j hj) ⟨b, by omega, by
      have f1 := farB_no.1 (nf _ hi)
      have f2 := farB_no.1 (nf _ hj)
      have w1 := w_facts (f := f) (n := n) hC hB h0 hi
      have w2 := w_facts (f := f) (n := n) hC hB h0 hj
      have t := hB.tri 0 (a + 1) (b + 1) h0 hi hj
      unfold tightR
      rw [hH a hi, hLo b hj, hS _ _ hi hj, wX_loose (.inl hmi) (by omega), if_neg (fun q => by omega), if_pos ⟨hab, by omega⟩]; omega⟩⟩
    have := sumN_le (m - 1) E
    unfold leftR
    omega
end
end Go.Proofs.YtlkbapcienjdcaaDoor

/- ZoneRests: what stands while its loop goes. -/
namespace Go.Proofs.YtlkbapcienjdcaaDoor
open Go.RowKit
attribute [local go_sem ↓] Go.wp_at_zero Go.wp_at_succ

theorem ZInts.below {w w' : World} {A : Option Addr} {m : Nat} {f : Nat → Int} (h : ZInts w A m f) (hb : Below w.heap.size w w') : ZInts w' A m f := fun h0 => by
  obtain ⟨b, off, e, hlt, hc⟩ := h h0
  exact ⟨b, off, e, Nat.lt_of_lt_of_le hlt hb.size, fun j hj => (hb.cell (p := ⟨b, off + j, none⟩) hlt).trans (hc j hj)⟩
theorem ZRow.below {w w' : World} {A : Option Addr} {k : Nat} {X : Nat → Int} {Az : Nat → Option Addr} {mz cz : Nat → Nat} {fz : Nat → Nat → Int} (h : ZRow w A k X Az mz cz fz) (hb : Below w.heap.size w w') : ZRow w' A k X Az mz cz fz := fun h0 => by
  obtain ⟨b, off, e, hlt, hc⟩ := h h0
  refine ⟨b, off, e, Nat.lt_of_lt_of_le hlt hb.size, fun j hj => ?_⟩
  obtain ⟨c1, c2, c3, c4, c5⟩ := hc j hj
  exact ⟨(hb.cell (p := ⟨b, off + j * 2, none⟩) hlt).trans c1, (hb.cell (p := ⟨b, off + j * 2 + 1, none⟩) hlt).trans c2, c3, c4, c5.below hb⟩
/-- The zone that is widened, and its box. -/
structure ZA (w : World) (m bx : Nat) (R : Option Mat) (A : Option Addr) (c : Nat) (W : World) : Prop where
  low : Below w.heap.size w W
  ab : Duo W bx 39 (.int .i64 ((m : Int) - 1)) (.slice A (rlen m R) c)
  az : ZRes W 0 m R (zoneV ((m : Int) - 1) A (rlen m R) c)
  new : w.heap.size ≤ bx
/-- With the zone that comes next. -/
structure ZQ (w : World) (m bx : Nat) (R : Option Mat) (A : Option Addr) (c bz : Nat) (X : Int) (Az : Option Addr) (mz cz : Nat) (W : World) : Prop where
  za : ZA w m bx R A c W
  zb : Duo W bz 31 (.int .i64 X) (.slice Az mz cz)
/-- A new box. -/
structure Nx (w : World) (nb bx bz : Nat) (W : World) : Prop where
  box : Duo W nb 39 (.int .i64 0) (.slice none 0 0)
  ne : nb ≠ bx ∧ nb ≠ bz ∧ w.heap.size ≤ nb
/-- What is widened lies in it. -/
structure ZN (w : World) (m bx : Nat) (R : Option Mat) (A : Option Addr) (c bz : Nat) (X : Int) (Az : Option Addr) (mz cz : Nat) (D : Option Mat) (A3 : Option Addr) (c3 nb : Nat) (W : World) : Prop where
  zq : ZQ w m bx R A c bz X Az mz cz W
  nbx : Duo W nb 39 (.int .i64 ((m : Int) - 1)) (.slice A3 (rlen m D) c3)
  nz : ZRes W 0 m D (zoneV ((m : Int) - 1) A3 (rlen m D) c3)
  ne : nb ≠ bx
section
variable {w W W1 : World} {m bx c bz mz cz c3 nb : Nat} {R D : Option Mat} {A Az A3 : Option Addr} {X : Int}
theorem ZA.below (h : ZA w m bx R A c W) (hb : Below W.heap.size W W1) : ZA w m bx R A c W1 := ⟨h.low.trans (hb.mono h.low.size), h.ab.below hb, h.az.below hb, h.new⟩
theorem ZQ.below (h : ZQ w m bx R A c bz X Az mz cz W) (hb : Below W.heap.size W W1) : ZQ w m bx R A c bz X Az mz cz W1 := ⟨h.za.below hb, h.zb.below hb⟩
theorem ZQ.s (h : ZQ w m bx R A c bz X Az mz cz W) : (W.cell? ⟨bx, 0, none⟩ = some (.int .i64 ((m : Int) - 1)) ∧ W.cell? ⟨bx, 1, none⟩ = some (.slice A (rlen m R) c)) ∧ W.cell? ⟨bz, 0, none⟩ = some (.int .i64 X) ∧ W.cell? ⟨bz, 1, none⟩ = some (.slice Az mz cz) := ⟨⟨h.za.ab.cell0, h.za.ab.cell1⟩, h.zb.cell0, h.zb.cell1⟩
theorem Nx.below (h : Nx w nb bx bz W) (hb : Below W.heap.size W W1) : Nx w nb bx bz W1 := ⟨h.box.below hb, h.ne⟩
theorem ZQ.nx (h : ZQ w m bx R A c bz X Az mz cz W) : Nx w W.heap.size bx bz (W.alloc (.cells #[.int .i64 0, .slice none 0 0] 39)) := by
  have h1 := h.za.ab.lt
  have h2 := h.zb.lt
  have h3 := h.za.low.size
  exact ⟨Duo.new W _ _ _, by omega, by omega, by omega⟩
theorem zn_put {b : Nat} (h : ZQ w m bx R A c bz X Az mz cz W) (hn : Nx w nb bx bz W) (hz : ZRes W b m D (zoneV ((m : Int) - 1) A3 (rlen m D) c3)) :
    ZN w m bx R A c bz X Az mz cz D A3 c3 nb ((W.setCell ⟨nb, 0, none⟩ (.int .i64 ((m : Int) - 1))).setCell ⟨nb, 1, none⟩ (.slice A3 (rlen m D) c3)) := by
  obtain ⟨n1, n2, n3⟩ := hn.ne
  have z1 := (h.za.az.setBox hn.box (o := 0) (.int .i64 ((m : Int) - 1))).setBox (hn.box.set0 _) (o := 1) (.slice A3 (rlen m D) c3)
  have z2 := (hz.setBox hn.box (o := 0) (.int .i64 ((m : Int) - 1))).setBox (hn.box.set0 _) (o := 1) (.slice A3 (rlen m D) c3)
  exact ⟨⟨⟨(h.za.low.setCell (p := ⟨nb, 0, none⟩) n3 _).setCell (p := ⟨nb, 1, none⟩) n3 _, (h.za.ab.other (by simpa using fun e => n1 e.symm) _).other (by simpa using fun e => n1 e.symm) _, z1, h.za.new⟩, (h.zb.other (by simpa using fun e => n2 e.symm) _).other (by simpa using fun e => n2 e.symm) _⟩, (hn.box.set0 _).set1 _, z2.lower (Nat.zero_le _), n1⟩
theorem ZN.below (h : ZN w m bx R A c bz X Az mz cz D A3 c3 nb W) (hb : Below W.heap.size W W1) : ZN w m bx R A c bz X Az mz cz D A3 c3 nb W1 := ⟨h.zq.below hb, h.nbx.below hb, h.nz.below hb, h.ne⟩
/-- It is the one to go on with. -/
theorem ZN.next (h : ZN w m bx R A c bz X Az mz cz D A3 c3 nb W) : ZA w m bx D A3 c3 ((W.setCell ⟨bx, 0, none⟩ (.int .i64 ((m : Int) - 1))).setCell ⟨bx, 1, none⟩ (.slice A3 (rlen m D) c3)) := by
  have hn := h.zq.za.new
  exact ⟨(h.zq.za.low.setCell (p := ⟨bx, 0, none⟩) hn _).setCell (p := ⟨bx, 1, none⟩) hn _, (h.zq.za.ab.set0 _).set1 _, (h.nz.setBox h.zq.za.ab (o := 0) (.int .i64 ((m : Int) - 1))).setBox (h.zq.za.ab.set0 _) (o := 1) (.slice A3 (rlen m D) c3), hn⟩
end
theorem same_self (m : Nat) (R : Option Mat) : sameO m m R R = true := by
  cases R with
  | none => exact decide_eq_true rfl
  | some C => show (decide (m = m) && (flatL m C == flatL m C)) = true; simp
theorem jn_closed {m : Nat} {Ra Rb : Option Mat} (hA : ∀ C, Ra = some C → Closed m C) (hB : ∀ B, Rb = some B → Closed m B) : ∀ D, jnO m m Ra Rb = some D → Closed m D := by
  intro D hD
  match Ra, Rb, hA, hB, hD with
  | none, R, _, hB, hD => exact hB D (by simpa [jnO] using hD)
  | some C, none, hA, _, hD => exact hA D (by simpa [jnO] using hD)
  | some C, some B, hA, hB, hD =>
    have e : D = maxM C B := by simpa [jnO] using hD.symm
    subst e
    exact max_closed (hA C rfl) (hB B rfl)
/-- What is left to change. -/
def restL (f : Nat → Int) (s v : Nat) : Option Mat → Nat
  | none => v * (2 * (s + 1)) + v * (v * 1) + 1
  | some C => leftR f s v C
theorem rests_step {m s : Nat} {f : Nat → Int} {R J : Option Mat} (h0 : 0 < m) (hA : ∀ C, R = some C → Closed m C) (hB : ∀ B, J = some B → Closed m B) :
    wdO m f s R J = R ∨ restL f s (m - 1) (wdO m f s R J) + 1 ≤ restL f s (m - 1) R := by
  by_cases hle : leqO m m J R = true
  · exact .inl (if_pos hle)
  · match R, J, hA, hB, hle with
    | none, none, _, _, hle => exact absurd (by simp [leqO]) hle
    | none, some B, _, _, hle =>
      right
      rw [show wdO m f s none (some B) = some B from if_neg hle]
      show leftR f s (m - 1) B + 1 ≤ _ + 1
      exact Nat.succ_le_succ (leftR_bd f s (m - 1) B)
    | some C, none, _, _, hle => exact absurd (by simp [leqO]) hle
    | some C, some B, hA, hB, hle =>
      right
      have hC := hA C rfl
      have hBB := hB B rfl
      have hmv : ∀ k, k < m → (mvS m f s C B (m * m) k = true ↔ Mv m f s C B k) := fun k _ => mvS_all h0 k
      rw [show wdO m f s (some C) (some B) = setR m (prM (mvS m f s C B (m * m)) f s C B) from if_neg hle, setR_yes (widen_alive hmv hC hBB h0)]
      refine left_step hmv hC hBB h0 ?_
      have q : leqO m m (some B) (some C) = false := by cases q : leqO m m (some B) (some C); rfl; exact absurd q hle
      simpa [leqO] using q
theorem field_rzone (N : Int) (A : Option Addr) (l c : Nat) (W : World) : Sem.run Tryd.prog (Instr.field 31 (zoneV N A l c) 0) W = Result.ok (.int .i64 N) W := by kernel_rfl
/-- The bound that the law asks. -/
theorem rests_bound {v s c : Nat} (hc : c ≤ v * (2 * (s + 1)) + v * (v * 1) + 1) (hv : v ≤ 4) : (c : Int) ≤ 1 + (2 * (v : Int) * ((s : Int) + 2) + 1) * ((v : Int) * (v : Int) + 1) := by
  rcases (show v = 0 ∨ v = 1 ∨ v = 2 ∨ v = 3 ∨ v = 4 by omega) with rfl | rfl | rfl | rfl | rfl <;> simp <;> omega
end Go.Proofs.YtlkbapcienjdcaaDoor

/- ZoneRests: the walk. -/
namespace Go.Proofs.YtlkbapcienjdcaaDoor
open Go.RowKit
attribute [local go_sem ↓] Go.wp_at_zero Go.wp_at_succ

end Go.Proofs.YtlkbapcienjdcaaDoor
