/- Put together of: ZMath, Cells, Round, Blocks, ZBase, Fill. -/
import Derived.RangeFuncBox
import Derived.RangeFuncLeaves
import Derived.RangeFuncNested
import Derived.Shelf.Abstract
import Derived.WalkKit
import Derived.OwnWalkIn
import Derived.TacticsInMore
import Derived.LoopNIn
import Derived.LoopIn
import Derived.Test.YtlkbapcienjdcaaDoorProg
import Derived.OrdersHeld
import Derived.RangeFuncCalls
import Derived.CallsIn
import Derived.Below
import Derived.OwnWalk
import Derived.WalkSpells
import Derived.Outline
import Derived.Lib.Hide
import Derived.Deep.RegionHeld3
import Derived.Deep.DeepCutAuto
import Derived.Deep.DrawnRows
import Derived.Maps.AppendAt
/- Plain mathematics of zones: bounds of how far numbers are apart, closed by taking each variable on the way in turn. Nothing of the program stands here. -/
namespace Go.Proofs.YtlkbapcienjdcaaDoor

/-- How far two variables are apart at most. -/
def far (i j : Nat) : Int := if i = j then 0 else if i = 0 ∨ j = 0 then 1152921504606846976 else 2305843009213693952
theorem far_same (i : Nat) : far i i = 0 := by unfold far; rw [if_pos rfl]
theorem far_cases (i j : Nat) : (i = j ∧ far i j = 0) ∨ (i ≠ j ∧ (i = 0 ∨ j = 0) ∧ far i j = 1152921504606846976) ∨ (i ≠ j ∧ i ≠ 0 ∧ j ≠ 0 ∧ far i j = 2305843009213693952) := by
  unfold far
  by_cases h : i = j
  · rw [if_pos h]; exact Or.inl ⟨h, rfl⟩
  · rw [if_neg h]
    by_cases h2 : i = 0 ∨ j = 0
    · rw [if_pos h2]; exact Or.inr (Or.inl ⟨h, h2, rfl⟩)
    · rw [if_neg h2]; exact Or.inr (Or.inr ⟨h, fun e => h2 (Or.inl e), fun e => h2 (Or.inr e), rfl⟩)
theorem far_nonneg (i j : Nat) : 0 ≤ far i j ∧ far i j ≤ 2305843009213693952 := by rcases far_cases i j with h | h | h <;> omega
theorem far_symm (i j : Nat) : far i j = far j i := by rcases far_cases i j with h | h | h <;> rcases far_cases j i with g | g | g <;> omega
theorem far_tri (i j k : Nat) : far i j ≤ far i k + far k j := by
  rcases far_cases i j with h | h | h <;> rcases far_cases i k with g | g | g <;> rcases far_cases k j with f | f | f <;> omega
theorem far_zero {i : Nat} (h : i ≠ 0) : far i 0 = 1152921504606846976 ∧ far 0 i = 1152921504606846976 := by
  rcases far_cases i 0 with g | g | g <;> rcases far_cases 0 i with f | f | f <;> omega

/-- Bounds, by row and column. -/
abbrev Mat := Nat → Nat → Int

/-- Each bound made no greater than two variables may be apart. -/
def cap (A : Mat) : Mat := fun i j => min (A i j) (far i j)
/-- One variable taken on the way. -/
def via (D : Mat) (k : Nat) : Mat := fun i j => min (D i j) (D i k + D k j)
/-- The first k variables taken on the way, in turn. -/
def lev (A : Mat) : Nat → Mat
  | 0 => cap A
  | k + 1 => via (lev A k) k

/-- No bound of the first m variables is below what two can be apart. -/
def Fits (m : Nat) (D : Mat) : Prop := ∀ i j, i < m → j < m → -far i j ≤ D i j
/-- The sums by way of k are not below that. -/
def Fit (m : Nat) (D : Mat) (k : Nat) : Prop := ∀ i j, i < m → j < m → -far i j ≤ D i k + D k j
/-- All goes well: there is a point. -/
def Alive (m : Nat) (A : Mat) : Prop := Fits m (cap A) ∧ ∀ k, k < m → Fit m (lev A k) k
def ClosedTo (m K : Nat) (D : Mat) : Prop := ∀ x i j, x < K → i < m → j < m → D i j ≤ D i x + D x j
def Same (m : Nat) (D E : Mat) : Prop := ∀ i j, i < m → j < m → D i j = E i j

theorem cap_le (A : Mat) (i j : Nat) : cap A i j ≤ A i j ∧ cap A i j ≤ far i j := by unfold cap; omega
theorem via_le (D : Mat) (k i j : Nat) : via D k i j ≤ D i j ∧ via D k i j ≤ D i k + D k j := by unfold via; omega
theorem lev_le_cap (A : Mat) (k i j : Nat) : lev A k i j ≤ cap A i j := by
  induction k with
  | zero => exact Int.le_refl _
  | succ k ih => exact Int.le_trans (via_le _ _ _ _).1 ih

/-- While all goes well: the diagonal is 0, all bounds are in range, what was taken on the way is closed. -/
theorem lev_good {m : Nat} {A : Mat} (h : Alive m A) : ∀ K, K ≤ m → (∀ i, i < m → lev A K i i = 0) ∧ Fits m (lev A K) ∧ ClosedTo m K (lev A K) := by
  intro K
  induction K with
  | zero =>
    intro _
    refine ⟨fun i hi => ?_, h.1, fun x _ _ hx => absurd hx (Nat.not_lt_zero _)⟩
    have h1 := h.1 i i hi hi
    have h2 := (cap_le A i i).2
    rw [far_same] at h1 h2
    show cap A i i = 0
    omega
  | succ K ih =>
    intro hK
    obtain ⟨d0, fits, clo⟩ := ih (by omega)
    have fk := h.2 K (by omega)
    have dK := d0 K (by omega)
    have fits' : Fits m (lev A (K + 1)) := fun i j hi hj => by
      have := fits i j hi hj; have := fk i j hi hj
      show -far i j ≤ min _ _
      omega
    refine ⟨fun i hi => ?_, fits', fun x i j hx hi hj => ?_⟩
    · have h1 := fits' i i hi hi
      have h2 := (via_le (lev A K) K i i).1
      rw [d0 i hi] at h2
      rw [far_same] at h1
      show via (lev A K) K i i = 0
      have h3 : -0 ≤ via (lev A K) K i i := h1
      omega
    · show via (lev A K) K i j ≤ via (lev A K) K i x + via (lev A K) K x j
      by_cases hxK : x = K
      · subst hxK
        unfold via
        rw [dK]
        omega
      · have hx' : x < K := by omega
        have c1 := clo x i j hx' hi hj
        have c2 := clo x K j hx' (by omega) hj
        have c3 := clo x i K hx' hi (by omega)
        have c4 := clo x K K hx' (by omega) (by omega)
        unfold via
        rw [dK] at c4
        omega

/-- What is closed. -/
structure Closed (m : Nat) (C : Mat) : Prop where
  diag : ∀ i, i < m → C i i = 0
  near : ∀ i j, i < m → j < m → C i j ≤ far i j
  tri : ∀ k i j, k < m → i < m → j < m → C i j ≤ C i k + C k j
theorem Closed.low {m : Nat} {C : Mat} (h : Closed m C) {i j : Nat} (hi : i < m) (hj : j < m) : -far i j ≤ C i j := by
  have h1 := h.tri j i i hj hi hi
  have h2 := h.near j i hj hi
  rw [h.diag i hi] at h1
  rw [far_symm j i] at h2
  omega
theorem Closed.bd {m : Nat} {C : Mat} (h : Closed m C) {i j : Nat} (hi : i < m) (hj : j < m) : -2305843009213693952 ≤ C i j ∧ C i j ≤ 2305843009213693952 := by
  have h1 := h.near i j hi hj
  have h2 := h.low hi hj
  have h3 := far_nonneg i j
  omega
theorem Closed.congr {m : Nat} {C D : Mat} (h : Closed m C) (e : Same m C D) : Closed m D :=
  ⟨fun i hi => by rw [← e i i hi hi]; exact h.diag i hi, fun i j hi hj => by rw [← e i j hi hj]; exact h.near i j hi hj,
   fun k i j hk hi hj => by rw [← e i j hi hj, ← e i k hi hk, ← e k j hk hj]; exact h.tri k i j hk hi hj⟩

theorem lev_closed {m : Nat} {A : Mat} (h : Alive m A) : Closed m (lev A m) := by
  obtain ⟨d0, -, clo⟩ := lev_good h m (Nat.le_refl _)
  exact ⟨d0, fun i j hi hj => Int.le_trans (lev_le_cap A m i j) (cap_le A i j).2, fun k i j hk hi hj => clo k i j hk hi hj⟩
/-- What is closed, and not above the bounds, is not above what comes of them. -/
theorem lev_greatest {m : Nat} {A X : Mat} (hx : Closed m X) (hle : ∀ i j, i < m → j < m → X i j ≤ A i j) : ∀ K, K ≤ m → ∀ i j, i < m → j < m → X i j ≤ lev A K i j := by
  intro K
  induction K with
  | zero => intro _ i j hi hj; show _ ≤ min _ _; have := hle i j hi hj; have := hx.near i j hi hj; omega
  | succ K ih =>
    intro hK i j hi hj
    have h1 := ih (by omega) i j hi hj
    have h2 := ih (by omega) i K hi (by omega)
    have h3 := ih (by omega) K j (by omega) hj
    have h4 := hx.tri K i j (by omega) hi hj
    show _ ≤ min _ _
    omega
/-- If something closed is not above the bounds, all goes well. -/
theorem alive_of {m : Nat} {A X : Mat} (hx : Closed m X) (hle : ∀ i j, i < m → j < m → X i j ≤ A i j) : Alive m A := by
  refine ⟨fun i j hi hj => Int.le_trans (hx.low hi hj) (lev_greatest hx hle 0 (Nat.zero_le _) i j hi hj), fun k hk i j hi hj => ?_⟩
  have h2 := lev_greatest hx hle k (by omega) i k hi hk
  have h3 := lev_greatest hx hle k (by omega) k j hk hj
  have h4 := hx.tri k i j hk hi hj
  have h5 := hx.low hi hj
  omega
/-- Bounds that are closed stay so. -/
theorem lev_same {m : Nat} {C : Mat} (h : Closed m C) : Alive m C ∧ Same m (lev C m) C := by
  refine ⟨alive_of h (fun _ _ _ _ => Int.le_refl _), fun i j hi hj => ?_⟩
  have h1 := lev_greatest h (fun _ _ _ _ => Int.le_refl _) m (Nat.le_refl _) i j hi hj
  have h2 := lev_le_cap C m i j
  have h3 := (cap_le C i j).1
  omega
/-- What comes of bounds hangs on them alone. -/
theorem lev_congr {m : Nat} {A B : Mat} (h : Same m (cap A) (cap B)) : ∀ K, K ≤ m → Same m (lev A K) (lev B K) := by
  intro K
  induction K with
  | zero => intro _; exact h
  | succ K ih =>
    intro hK i j hi hj
    have e := ih (by omega)
    show min _ _ = min _ _
    rw [e i j hi hj, e i K hi (by omega), e K j (by omega) hj]
theorem alive_congr {m : Nat} {A B : Mat} (h : Same m (cap A) (cap B)) (a : Alive m A) : Alive m B := by
  refine ⟨fun i j hi hj => by rw [← h i j hi hj]; exact a.1 i j hi hj, fun k hk i j hi hj => ?_⟩
  rw [← lev_congr h k (by omega) i k hi hk, ← lev_congr h k (by omega) k j hk hj]
  exact a.2 k hk i j hi hj
theorem same_symm {m : Nat} {A B : Mat} (h : Same m A B) : Same m B A := fun i j hi hj => (h i j hi hj).symm
theorem same_trans {m : Nat} {A B C : Mat} (h : Same m A B) (g : Same m B C) : Same m A C := fun i j hi hj => (h i j hi hj).trans (g i j hi hj)
theorem cap_congr {m : Nat} {A B : Mat} (h : Same m A B) : Same m (cap A) (cap B) := fun i j hi hj => by unfold cap; rw [h i j hi hj]
theorem cap_cap {m : Nat} (A : Mat) : Same m (cap (cap A)) (cap A) := fun i j _ _ => by unfold cap; omega

/- Points. -/
/-- A point: the numbers of the variables, that of variable 0 being 0. -/
structure Pt (m : Nat) (A : Mat) (p : Nat → Int) : Prop where
  zero : p 0 = 0
  whole : ∀ i, i < m → -1152921504606846976 ≤ p i ∧ p i ≤ 1152921504606846976
  holds : ∀ i j, i < m → j < m → p i - p j ≤ A i j
/-- A point, as bounds. -/
def pmat (p : Nat → Int) : Mat := fun i j => p i - p j
theorem pmat_closed {m : Nat} {A : Mat} {p : Nat → Int} (h : Pt m A p) : Closed m (pmat p) := by
  refine ⟨fun i _ => by unfold pmat; omega, fun i j hi hj => ?_, fun k i j _ _ _ => by unfold pmat; omega⟩
  have h1 := h.whole i hi
  have h2 := h.whole j hj
  have h0 := h.zero
  unfold pmat far
  split
  · next e => subst e; omega
  · split
    · next e => rcases e with rfl | rfl <;> omega
    · omega
theorem alive_pt {m : Nat} {A : Mat} {p : Nat → Int} (h : Pt m A p) : Alive m A ∧ Pt m (lev A m) p := by
  have hc := pmat_closed h
  exact ⟨alive_of hc h.holds, h.zero, h.whole, fun i j hi hj => lev_greatest hc h.holds m (Nat.le_refl _) i j hi hj⟩
theorem pt_of_lev {m : Nat} {A : Mat} {p : Nat → Int} (h : Pt m (lev A m) p) : Pt m A p :=
  ⟨h.zero, h.whole, fun i j hi hj => Int.le_trans (h.holds i j hi hj) (Int.le_trans (lev_le_cap A m i j) (cap_le A i j).1)⟩
theorem pt_le {m : Nat} {A B : Mat} {p : Nat → Int} (h : Pt m A p) (hle : ∀ i j, i < m → j < m → A i j ≤ B i j) : Pt m B p := ⟨h.zero, h.whole, fun i j hi hj => Int.le_trans (h.holds i j hi hj) (hle i j hi hj)⟩
/-- Each bound is reached: the column of j is a point. -/
theorem pt_col {m : Nat} {C : Mat} (h : Closed m C) (h0 : 0 < m) {j : Nat} (hj : j < m) : Pt m C (fun k => if k < m then C k j - C 0 j else 0) := by
  refine ⟨by rw [if_pos h0]; omega, fun i hi => ?_, fun i k hi hk => ?_⟩
  · rw [if_pos hi]
    have h1 := h.tri 0 i j h0 hi hj
    have h2 := h.tri i 0 j hi h0 hj
    have h3 := h.near i 0 hi h0
    have h4 := h.near 0 i h0 hi
    by_cases e : i = 0
    · subst e; omega
    · have := far_zero e; omega
  · rw [if_pos hi, if_pos hk]
    have := h.tri k i j hk hi hj
    omega
/-- The row of j, too. -/
theorem pt_row {m : Nat} {C : Mat} (h : Closed m C) (h0 : 0 < m) {j : Nat} (hj : j < m) : Pt m C (fun k => if k < m then C j 0 - C j k else 0) := by
  refine ⟨by rw [if_pos h0]; omega, fun i hi => ?_, fun i k hi hk => ?_⟩
  · rw [if_pos hi]
    have h1 := h.tri 0 j i h0 hj hi
    have h2 := h.tri i j 0 hi hj h0
    have h3 := h.near i 0 hi h0
    have h4 := h.near 0 i h0 hi
    by_cases e : i = 0
    · subst e; omega
    · have := far_zero e; omega
  · rw [if_pos hi, if_pos hk]
    have := h.tri i j k hi hj hk
    omega
/-- All points of a closed one are in the other one just if no bound is above. -/
theorem le_of_pts {m : Nat} {C A : Mat} (h : Closed m C) (h0 : 0 < m) (all : ∀ p, Pt m C p → Pt m A p) : ∀ i j, i < m → j < m → C i j ≤ A i j := by
  intro i j hi hj
  have := (all _ (pt_col h h0 hj)).holds i j hi hj
  rw [if_pos hi, if_pos hj, h.diag j hj] at this
  omega
theorem same_of_pts {m : Nat} {C D : Mat} (h : Closed m C) (g : Closed m D) (h0 : 0 < m) (all : ∀ p, Pt m C p ↔ Pt m D p) : Same m C D := by
  intro i j hi hj
  have h1 := le_of_pts h h0 (fun p => (all p).1) i j hi hj
  have h2 := le_of_pts g h0 (fun p => (all p).2) i j hi hj
  omega

/- The document's way: all bounds made smaller at once, by all others. -/
/-- The least sum by way of one of the first k. -/
def least (D : Mat) (i j : Nat) : Nat → Int
  | 0 => D i j
  | k + 1 => min (least D i j k) (D i k + D k j)
def shr (m : Nat) (D : Mat) : Mat := fun i j => least D i j m
theorem least_le (D : Mat) (i j K : Nat) : least D i j K ≤ D i j ∧ ∀ k, k < K → least D i j K ≤ D i k + D k j := by
  induction K with
  | zero => exact ⟨Int.le_refl _, fun k h => absurd h (Nat.not_lt_zero _)⟩
  | succ K ih =>
    have e : least D i j (K + 1) = min (least D i j K) (D i K + D K j) := rfl
    refine ⟨by have := ih.1; omega, fun k hk => ?_⟩
    by_cases h : k = K
    · subst h; omega
    · have := ih.2 k (by omega); omega
theorem least_ge {D : Mat} {i j : Nat} {x : Int} (K : Nat) (h0 : x ≤ D i j) (h : ∀ k, k < K → x ≤ D i k + D k j) : x ≤ least D i j K := by
  induction K with
  | zero => exact h0
  | succ K ih => have := ih (fun k hk => h k (by omega)); have := h K (by omega); show x ≤ min _ _; omega
/-- So many rounds. -/
def shrN (m : Nat) (A : Mat) : Nat → Mat
  | 0 => cap A
  | r + 1 => shr m (shrN m A r)
theorem shrN_greatest {m : Nat} {A X : Mat} (hx : Closed m X) (hle : ∀ i j, i < m → j < m → X i j ≤ A i j) : ∀ r i j, i < m → j < m → X i j ≤ shrN m A r i j := by
  intro r
  induction r with
  | zero => intro i j hi hj; show _ ≤ min _ _; have := hle i j hi hj; have := hx.near i j hi hj; omega
  | succ r ih =>
    intro i j hi hj
    refine least_ge m (ih i j hi hj) (fun k hk => ?_)
    have h2 := ih i k hi hk
    have h3 := ih k j hk hj
    have h4 := hx.tri k i j hk hi hj
    omega
theorem shrN_le_lev {m : Nat} {A : Mat} : ∀ r, r ≤ m → ∀ i j, i < m → j < m → shrN m A r i j ≤ lev A r i j := by
  intro r
  induction r with
  | zero => intro _ i j _ _; exact Int.le_refl _
  | succ r ih =>
    intro hr i j hi hj
    have h1 := ih (by omega) i j hi hj
    have h2 := ih (by omega) i r hi (by omega)
    have h3 := ih (by omega) r j (by omega) hj
    have l := least_le (shrN m A r) i j m
    have l2 := l.2 r (by omega)
    show least _ _ _ _ ≤ min _ _
    omega
theorem shrN_mono {m : Nat} {A : Mat} (r i j : Nat) : shrN m A (r + 1) i j ≤ shrN m A r i j := (least_le _ _ _ _).1
/-- Where all goes well both ways come to the same, behind m rounds and on. -/
theorem shrN_lev {m : Nat} {A : Mat} (h : Alive m A) : ∀ r, m ≤ r → Same m (shrN m A r) (lev A m) := by
  have hc := lev_closed h
  have hA : ∀ i j, i < m → j < m → lev A m i j ≤ A i j := fun i j _ _ => Int.le_trans (lev_le_cap A m i j) (cap_le A i j).1
  intro r hr i j hi hj
  have h1 := shrN_greatest hc hA r i j hi hj
  have h2 : shrN m A r i j ≤ lev A m i j := by
    induction r with
    | zero => obtain rfl : m = 0 := by omega
              exact absurd hi (Nat.not_lt_zero _)
    | succ r ih =>
      by_cases e : m = r + 1
      · rw [← e]; exact shrN_le_lev m (Nat.le_refl _) i j hi hj
      · have := shrN_mono (m := m) (A := A) r i j
        have := ih (by omega) (shrN_greatest hc hA r i j hi hj)
        omega
  omega
/-- No round leaves the range where all goes well. -/
theorem shrN_fits {m : Nat} {A : Mat} (h : Alive m A) (r : Nat) : Fits m (shrN m A r) := fun i j hi hj => by
  have hc := lev_closed h
  have h1 := shrN_greatest hc (fun i j _ _ => Int.le_trans (lev_le_cap A m i j) (cap_le A i j).1) r i j hi hj
  have h2 := hc.low hi hj
  omega
/-- If no round of m leaves the range, all goes well. -/
theorem alive_of_fits {m : Nat} {A : Mat} (h : ∀ r, r ≤ m → Fits m (shrN m A r)) : Alive m A := by
  refine ⟨fun i j hi hj => h 0 (Nat.zero_le _) i j hi hj, fun k hk i j hi hj => ?_⟩
  have h1 := h (k + 1) (by omega) i j hi hj
  have h2 := shrN_le_lev (m := m) (A := A) k (by omega) i k hi hk
  have h3 := shrN_le_lev (m := m) (A := A) k (by omega) k j hk hj
  have h4 := (least_le (shrN m A k) i j m).2 k hk
  have h5 : shrN m A (k + 1) i j = least (shrN m A k) i j m := rfl
  omega
end Go.Proofs.YtlkbapcienjdcaaDoor

/- The contract of cells: all rows and columns of n variables, row by row, for whatever loop body leaves the number of variables as it was. -/
namespace Go.Proofs.YtlkbapcienjdcaaDoor
open Go.RowKit Go.Shelf
attribute [local go_sem] Oper.semAt_some

/-- A row and a column, of m. -/
abbrev Cell (m : Nat) := { x : Nat × Nat // x.1 < m ∧ x.2 < m }
/-- The row and the column of the t-th bound, of m rows. -/
def spot {m : Nat} (h : 0 < m) (t : Nat) : Cell m := ⟨(t / m % m, t % m), Nat.mod_lt _ h, Nat.mod_lt _ h⟩
/-- The first t of them. -/
def spots {m : Nat} (h : 0 < m) (t : Nat) : List (Cell m) := (List.range t).map (spot h)
theorem spots_succ {m : Nat} (h : 0 < m) (t : Nat) : spots h (t + 1) = spots h t ++ [spot h t] := by simp [spots, List.range_succ]
theorem spots_len {m : Nat} (h : 0 < m) (t : Nat) : (spots h t).length = t := by simp [spots]
theorem spot_at {m i j : Nat} (h : 0 < m) (hi : i < m) (hj : j < m) : spot h (i * m + j) = ⟨(i, j), hi, hj⟩ := by
  unfold spot
  apply Subtype.ext
  show ((i * m + j) / m % m, (i * m + j) % m) = (i, j)
  rw [Nat.mul_comm i m, Nat.mul_add_div (by omega), Nat.mul_add_mod, Nat.div_eq_of_lt hj, Nat.mod_eq_of_lt hj]
  rw [Nat.add_zero, Nat.mod_eq_of_lt hi]
theorem spots_next {m i j : Nat} (h : 0 < m) (hi : i < m) (hj : j < m) : spots h (i * m + (j + 1)) = spots h (i * m + j) ++ [⟨(i, j), hi, hj⟩] := by
  rw [← spot_at h hi hj, ← spots_succ]; rfl
theorem spots_row {m i : Nat} (h : 0 < m) : spots h ((i + 1) * m) = spots h (i * m + m) := by rw [Nat.succ_mul]
theorem spot_lt {m i j : Nat} (hi : i < m) (hj : j < m) : i * m + j < m * m := by
  have h1 : (i + 1) * m ≤ m * m := Nat.mul_le_mul_right m hi
  rw [Nat.succ_mul] at h1
  omega

/-- One cell of a block is as it was. -/
def CellKept (B : Nat) (W W' : World) : Prop := W'.cell? ⟨B, 0, none⟩ = W.cell? ⟨B, 0, none⟩

set_option maxRecDepth 100000 in
set_option maxHeartbeats 2000000 in
theorem cells1_in (F : Fence) (n : Nat) (hf : F.fn 69) (hro : F.round = none) (hn : 1 ≤ n) (l B m : Nat) (hm : m ≤ 7) (h0m : 0 < m) (J Jx : List (Cell m) → World → Prop)
    (hY : ∀ pre x W, J pre W → pre.length < m * m → YieldAt F (n - 1) Tryd.prog l #[.int .i64 (x.1.1 : Int), .int .i64 (x.1.2 : Int)] W fun e W' =>
      (e = .returned (.bool true) ∧ J (pre ++ [x]) W' ∧ CellKept B W W') ∨ (e = .returned (.bool false) ∧ Jx (pre ++ [x]) W'))
    (W : World) (hB : W.cell? ⟨B, 0, none⟩ = some (.int .i64 ((m : Int) - 1))) (h0 : J [] W) :
    CallsIn F n Tryd.prog 69 #[.func (.yield l) #[] #[], .pointer (some ⟨B, 0, none⟩)] W fun e W' => (∃ v, e = .returned v) ∧
      ((∃ ys, ys = spots h0m (m * m) ∧ J ys W') ∨ (∃ pre, (∃ t, t ≤ m * m ∧ pre = spots h0m t) ∧ Jx pre W')) := by
  have hw : (m : Int) - 1 + 1 = m := by omega
  refine callsIn_of_wp Tryd.func69 rfl hf ?_ hro
  simp only [Tryd.ntmps69, List.size_toArray, List.length_cons, List.length_nil, Nat.reduceAdd, Nat.reduceSub, Array.replicate_succ, Array.replicate_zero, List.push_toArray, List.append_toArray, List.nil_append, List.cons_append]
  gi_wp2
  gi_loopw [7] (fun i wr => ∃ k : Nat, k ≤ m ∧ i = .int .i64 k ∧ J (spots h0m (k * m)) wr ∧ CellKept B W wr) (fun i _ => m - (intOf i).toNat)
  case atStart => exact ⟨0, Nat.zero_le _, rfl, by simpa [spots] using h0, rfl⟩
  case round =>
    obtain ⟨k, hk, rfl, hJs, hck⟩ := hrel
    by_cases hlt : k < m
    · have hB1 : wr.cell? ⟨B, 0, none⟩ = some (.int .i64 ((m : Int) - 1)) := hck.trans hB
      obtain ⟨wo, rfl⟩ : ∃ wo : World, wo = wr := ⟨_, rfl⟩
      gi_wp2
      gi_loopw [12] (fun i wr => ∃ j : Nat, j ≤ m ∧ i = .int .i64 j ∧ J (spots h0m (k * m + j)) wr ∧ CellKept B W wr) (fun i _ => m - (intOf i).toNat)
      case atStart => exact ⟨0, Nat.zero_le _, rfl, hJs, hck⟩
      case round =>
        obtain ⟨j, hj, rfl, hJj, hcj⟩ := hrel
        by_cases hlj : j < m
        · obtain ⟨fn, tmps, assign, body, hy, hR⟩ := hY _ ⟨(k, j), hlt, hlj⟩ wr hJj (by rw [spots_len]; exact spot_lt hlt hlj)
          dsimp only at hy
          gi_wp2
          refine hR.mono ?_
          rintro e W3 (⟨rfl, hJ3, hk3⟩ | ⟨rfl, hJx3⟩)
          · gi_wp2
            go_roundw
            case rel => exact ⟨j + 1, by omega, by simp, by rw [spots_next h0m hlt hlj]; exact hJ3, hk3.trans hcj⟩
            case measure => simp [intOf]; omega
          · gi_wp2
            refine bodyPost_ret (results_none rfl _ _ _) rfl ?_
            exact ⟨⟨_, rfl⟩, .inr ⟨_, ⟨k * m + (j + 1), by have := spot_lt hlt hlj; omega, (spots_next h0m hlt hlj).symm⟩, hJx3⟩⟩
        · obtain rfl : j = m := by omega
          gi_wp2
          go_roundw
          case rel => exact ⟨k + 1, by omega, by simp, by rw [spots_row h0m]; exact hJj, hcj⟩
          case measure => simp [intOf]; omega
    · obtain rfl : k = m := by omega
      gi_wp2
      go_end0
      exact ⟨⟨_, rfl⟩, .inl ⟨_, rfl, hJs⟩⟩

set_option maxHeartbeats 1000000 in
/-- cells(n): the number is boxed, and the function value has the box. -/
theorem cells_in (F : Fence) (n : Nat) (hf : F.fn 51) (hro : F.round = none) (x : Int) (w : World) :
    CallsIn F n Tryd.prog 51 #[.int .i64 x] w fun e w' => e = .returned (.func (.func 69) #[] #[.pointer (some ⟨w.heap.size, 0, none⟩)]) ∧ w' = w.alloc (.cells #[.int .i64 x] 3) := by
  refine callsIn_of_wp Tryd.func51 rfl hf ?_ hro
  simp only [Tryd.ntmps51, List.size_toArray, List.length_cons, List.length_nil, Nat.reduceAdd, Nat.reduceSub, Array.replicate_succ, Array.replicate_zero, List.push_toArray, List.append_toArray, List.nil_append, List.cons_append]
  gi_wp2
  go_ret
  exact ⟨rfl, rfl⟩

/-- What cells hands back goes through all rows and columns, as long as the loop's body leaves its box. -/
theorem cells_stops (F : Fence) (n : Nat) (hf : F.fn 69) (hro : F.round = none) (hn : 1 ≤ n) (B m : Nat) (hm : m ≤ 7) (h0m : 0 < m) (w : World) (hBw : B < w.heap.size) (hB : w.cell? ⟨B, 0, none⟩ = some (.int .i64 ((m : Int) - 1))) :
    SeqStopsK F n Tryd.prog 69 #[.pointer (some ⟨B, 0, none⟩)] (fun x : Cell m => #[Value.int .i64 (x.1.1 : Int), Value.int .i64 (x.1.2 : Int)]) (CellKept B) (fun ys => ys = spots h0m (m * m)) (fun pre => ∃ t, t ≤ m * m ∧ pre = spots h0m t) (m * m) w := fun l J Jx W hW _ _ hY h0 =>
  cells1_in F n hf hro hn l B m hm h0m J Jx hY W ((hW.cell (p := ⟨B, 0, none⟩) hBw).trans hB) h0
theorem cellKept_t {B : Nat} {a b c : World} (h : CellKept B a b) (k : CellKept B b c) : CellKept B a c := Eq.trans k h
theorem cellKept_b {B : Nat} {w : World} (hB : B < w.heap.size) (W : World) (l : Nat) (o o' : Obj) (hl : w.heap.size ≤ l) (h : W.heap[l]? = some o) (h1 : o.isCells = false) (h2 : o.isWalk = false) : CellKept B W (W.putObj l o') :=
  (belowK_b (n₀ := B + 1) (w := w) (by omega) W l o o' hl h h1 h2).cell (p := ⟨B, 0, none⟩) (by simp)
end Go.Proofs.YtlkbapcienjdcaaDoor

/- In a round of a range over a function: a region that draws its order is met by the plain walk's laws. Nothing of the program stands here. -/
namespace Go.Proofs.YtlkbapcienjdcaaDoor
open Go.RowKit

def noDefer (ops : Array Oper) : Bool := ops.all fun o => match o.op with | .defer _ => false | _ => true
theorem noDefer_at {ops : Array Oper} (h : noDefer ops = true) {i : Nat} {o : Oper} (ho : ops[i]? = some o) : ∀ c, o.op ≠ .defer c := by
  intro c hc
  obtain ⟨hi, e⟩ := Array.getElem?_eq_some_iff.1 ho
  have := Array.all_eq_true.1 h i hi
  rw [e, hc] at this
  cases this

theorem rowsIn_of {n : Nat} {P : Program} {row : String} {args : Array Value} {w : World} {R : Value → World → Prop} (h : Rows P row args w R) : RowsIn Fence.wide n P row args w R :=
  fun c cs _ => let ⟨v, w', r, s⟩ := h c cs; ⟨v, w', r, stepsIn_wide.2 s⟩

theorem opsIn_of_ops {r n : Nat} {P : Program} {ops : Array Oper} {Q : Exit → Act → World → Prop} (hd : noDefer ops = true) (hout : ¬ LetsOut Q) :
    ∀ (l : List Nat) (a : Act) (w : World), wpOps P ops Q l a w → wpOpsIn (Fence.wide.inRound r) n P ops Q l a w := by
  intro l
  induction l with
  | nil => intro a w h; exact h
  | cons i rest ih =>
    intro a w h
    unfold wpOps at h
    unfold wpOpsIn
    cases ho : ops[i]? with
    | none => simp only [ho] at h ⊢; exact ih a w h
    | some o =>
      simp only [ho] at h ⊢
      split
      · rename_i hw
        simp only [hw, if_true] at h
        rcases h with h | ⟨-, h⟩
        · refine ⟨fun _ _ => trivial, ?_⟩
          rw [Oper.semAt_eq _ _ _ (noDefer_at hd ho)]
          unfold Oper.wp at h
          generalize (execOp a.eval o).run P w = res at *
          cases res with
          | ok x w' =>
            cases x <;> simp only [Oper.upon, Oper.uponIn] at h ⊢
            case value => exact ih _ _ h
            case skip => exact ih _ _ h
            case defer => exact ih _ _ h
            case enter f args =>
              refine ⟨(fun hn => by cases hn), CallsIn.inRound r (CallsIn.mono (callsIn_wide.2 h) fun e w'' he => ?_)⟩
              cases e with
              | returned v => exact ih _ _ he
              | panicked c => exact he
              | outgrown => exact he
            case row row args => exact ⟨(fun hn => by cases hn), RowsIn.mono (rowsIn_of h) fun v w'' he => ih _ _ he⟩
          | halt x w' => cases x <;> simp only [Oper.upon, Oper.uponIn] at h ⊢ <;> exact h
        · exact absurd h hout
      · rename_i hw
        simp only [hw, Bool.false_eq_true, if_false] at h
        exact ⟨fun _ _ => trivial, ih _ _ h⟩

/-- A region that draws its order, in a round: S holds of the world at its start, and is shown anew behind each of its steps. -/
theorem wpIn_held {r n id : Nat} {P : Program} {ops : Array Oper} {Q : Exit → Act → World → Prop} {a : Act} {w : World} {S : World → Prop} (hm : P.follows .mixedOrders = true) (hd : noDefer ops = true) (hout : ¬ LetsOut Q)
    (hS : S w.drew) (h : S w.drew → wpAnyH P .any ops Q S ops.size (Array.replicate ops.size false) a w.drew) : (Code.region id ops true).wpIn (Fence.wide.inRound r) n P Q a w :=
  wpIn_region_draw fun t => by
    simp only [Region.schedule, hm, Bool.true_or, if_true]
    exact opsIn_of_ops hd hout _ _ _ (wpAny_sound ops.size t _ a _ (wpAny_of_held _ _ _ _ (h hS)))
end Go.Proofs.YtlkbapcienjdcaaDoor

/- Blocks that hold one or two variables, known whole. Nothing of the program stands here. -/
namespace Go.Proofs.YtlkbapcienjdcaaDoor
open Go.RowKit

theorem boxed_below {W W' : World} {B : Nat} {t : TypeId} {v : Value} (h : Boxed W B t v) (hb : Below W.heap.size W W') : Boxed W' B t v := (hb.block B h.lt).trans h
/-- Block B holds two variables. -/
def Duo (W : World) (B : Nat) (t : TypeId) (p q : Value) : Prop := W.heap[B]? = some (.cells #[p, q] t (0, 0))
theorem Duo.lt {W : World} {B : Nat} {t : TypeId} {p q : Value} (h : Duo W B t p q) : B < W.heap.size := (Array.getElem?_eq_some_iff.1 h).1
theorem Duo.cell0 {W : World} {B : Nat} {t : TypeId} {p q : Value} (h : Duo W B t p q) : W.cell? ⟨B, 0, none⟩ = some p := by simp [World.cell?, show W.heap[B]? = _ from h]
theorem Duo.cell1 {W : World} {B : Nat} {t : TypeId} {p q : Value} (h : Duo W B t p q) : W.cell? ⟨B, 1, none⟩ = some q := by simp [World.cell?, show W.heap[B]? = _ from h]
theorem Duo.frozen0 {W : World} {B : Nat} {t : TypeId} {p q : Value} (h : Duo W B t p q) : W.frozen? ⟨B, 0, none⟩ = false := by simp [World.frozen?, show W.heap[B]? = _ from h]
theorem Duo.frozen1 {W : World} {B : Nat} {t : TypeId} {p q : Value} (h : Duo W B t p q) : W.frozen? ⟨B, 1, none⟩ = false := by simp [World.frozen?, show W.heap[B]? = _ from h]
theorem Duo.new (W : World) (t : TypeId) (p q : Value) : Duo (W.alloc (.cells #[p, q] t)) W.heap.size t p q := World.alloc_heap_new W _
theorem Duo.kept {W W' : World} {row : Option Nat} {B : Nat} {t : TypeId} {p q : Value} (h : Duo W B t p q) (hg : W.grownBy W' row) (hne : some B ≠ row) : Duo W' B t p q := (hg.block B h.lt hne).trans h
theorem Duo.alloc {W : World} {B : Nat} {t : TypeId} {p q : Value} (h : Duo W B t p q) (o : Obj) : Duo (W.alloc o) B t p q := h.kept (World.grownBy_alloc W o none) (by simp)
theorem Duo.below {W W' : World} {B : Nat} {t : TypeId} {p q : Value} (h : Duo W B t p q) (hb : Below W.heap.size W W') : Duo W' B t p q := (hb.block B h.lt).trans h
theorem duo_grown_setCell (W : World) (a : Addr) (v : Value) : W.grownBy (W.setCell a v) (some a.block) :=
  ⟨rfl, rfl, rfl, (KeepsWalks.setCell W _ v).size, fun k _ hk => Below.heap_setCell _ _ _ k (fun e => hk (by rw [e]))⟩
theorem Duo.set1 {W : World} {B : Nat} {t : TypeId} {p q : Value} (q' : Value) (h : Duo W B t p q) : Duo (W.setCell ⟨B, 1, none⟩ q') B t p q' := by
  obtain ⟨hlt, hk⟩ := Array.getElem?_eq_some_iff.1 h
  show (W.heap.modify B _)[B]? = _
  rw [Array.getElem?_eq_getElem (by rw [Array.size_modify]; exact hlt), Array.getElem_modify_self, hk]
  rfl
theorem Duo.set0 {W : World} {B : Nat} {t : TypeId} {p q : Value} (p' : Value) (h : Duo W B t p q) : Duo (W.setCell ⟨B, 0, none⟩ p') B t p' q := by
  obtain ⟨hlt, hk⟩ := Array.getElem?_eq_some_iff.1 h
  show (W.heap.modify B _)[B]? = _
  rw [Array.getElem?_eq_getElem (by rw [Array.size_modify]; exact hlt), Array.getElem_modify_self, hk]
  rfl
theorem Duo.other {W : World} {B : Nat} {t : TypeId} {p q : Value} (h : Duo W B t p q) {a : Addr} (hne : B ≠ a.block) (u : Value) : Duo (W.setCell a u) B t p q := h.kept (duo_grown_setCell W a u) (by simpa using hne)
theorem boxed_other {W : World} {B : Nat} {t : TypeId} {v : Value} (h : Boxed W B t v) {a : Addr} (hne : B ≠ a.block) (u : Value) : Boxed (W.setCell a u) B t v := h.kept (duo_grown_setCell W a u) (by simpa using hne)
/-- A slice's own row is not a block of two variables of another type. -/
theorem Duo.not_row {W : World} {B : Nat} {t e : TypeId} {p q : Value} (h : Duo W B t p q) (hte : t ≠ e) {base size k : Nat} {v : Value} {xs : List Value} (hr : W.ownsRow base e size v k xs) : some B ≠ v.ownBlock := by
  rcases hr.2 with ⟨rfl, _⟩ | ⟨g, cap, cur, rfl, _, hgb, _⟩
  · simp [Value.ownBlock]
  · intro e'
    obtain rfl : B = g := by simpa [Value.ownBlock] using e'
    have := (show W.heap[B]? = _ from h).symm.trans hgb
    simp at this
    exact hte this.2
/-- What is said of a block of cells abides a turn of what is no cells. -/
theorem cells_own {X Y : World} {row : Option Nat} {B : Nat} {cs : Array Value} {t : TypeId} (h : X.heap[B]? = some (.cells cs t (0, 0))) (hg : X.grownBy Y row) (hr : ∀ r, row = some r → ∃ o : Obj, X.heap[r]? = some o ∧ o.isCells = false) : Y.heap[B]? = some (.cells cs t (0, 0)) := by
  refine (hg.block B (Array.getElem?_eq_some_iff.1 h).1 (fun e => ?_)).trans h
  obtain ⟨o, ho, hc⟩ := hr B e.symm
  rw [h] at ho; cases ho; cases hc
theorem row_own {X Y : World} {row : Option Nat} {base : Nat} {e : TypeId} {size k : Nat} {v : Value} {xs : List Value} (h : X.ownsRow base e size v k xs) (hg : X.grownBy Y row) (hr : ∀ r, row = some r → ∃ o : Obj, X.heap[r]? = some o ∧ o.isCells = false) : Y.ownsRow base e size v k xs := by
  refine h.kept hg ?_
  rcases h.2 with ⟨rfl, _⟩ | ⟨g, cap, cur, rfl, _, hgb, _⟩
  · exact .inl rfl
  · refine .inr fun e' => ?_
    obtain ⟨o, ho, hc⟩ := hr g (by simpa [Value.ownBlock] using e'.symm)
    rw [hgb] at ho; cases ho; cases hc
theorem own_kept_below {w w' : World} {base : Nat} {e : TypeId} {size n : Nat} {v : Value} {xs : List Value} (h : w.ownsRow base e size v n xs) (hb : Below w.heap.size w w') : w'.ownsRow base e size v n xs :=
  h.kept (row := none) ⟨hb.os, hb.tape, hb.output, hb.size, fun i hi _ => hb.block i hi⟩ (by cases v.ownBlock <;> simp)
/-- A call that changes nothing of what was there leaves the loop's book-keeping. -/
theorem keeps_below {W W' : World} (h : Below W.heap.size W W') (B : Nat) : KeepsFrom B W W' := ⟨h.size, fun k _ _ hk _ => (h.block k (Array.getElem?_eq_some_iff.1 hk).1).trans hk⟩
theorem keeps_setCell (W : World) (a : Addr) (u : Value) (B : Nat) : KeepsFrom B W (W.setCell a u) := (KeepsOthers.setCell W a u).from B
theorem keeps_own {W W' : World} {base : Nat} {e : TypeId} {size k : Nat} {v : Value} {xs : List Value} (hr : W.ownsRow base e size v k xs) (hg : W.grownBy W' v.ownBlock) (B : Nat) : KeepsFrom B W W' := by
  refine ⟨hg.size, fun i o _ hi ho => (hg.block i (Array.getElem?_eq_some_iff.1 hi).1 (fun e => ?_)).trans hi⟩
  rcases hr.2 with ⟨rfl, _⟩ | ⟨g, cap, cur, rfl, _, hgb, _⟩
  · simp [Value.ownBlock] at e
  · obtain rfl : i = g := by simpa [Value.ownBlock] using e
    rw [hgb] at hi; cases hi; cases ho
end Go.Proofs.YtlkbapcienjdcaaDoor

/- The contracts of the zone layer's least functions: may, farthest, place, at, none, named, known. -/
namespace Go.Proofs.YtlkbapcienjdcaaDoor
open Go.RowKit
attribute [local go_sem ↓] Go.wp_at_zero Go.wp_at_succ

/-- A zone's value. -/
abbrev zoneV (n : Int) (A : Option Addr) (len cap : Nat) : Value := .agg #[.int .i64 n, .slice A len cap]
def ZRetInt (x : Int) (w : World) (e : Ending) (w' : World) : Prop := e = .returned (.int .i64 x) ∧ Below w.heap.size w w'
def ZRetBool (b : Bool) (w : World) (e : Ending) (w' : World) : Prop := e = .returned (.bool b) ∧ Below w.heap.size w w'
theorem zboxed (w : World) (o : Obj) : Below w.heap.size w (w.alloc o) := (Below.refl _ _).alloc (Nat.le_refl _) _
theorem zthen {w w1 w2 : World} (h1 : Below w.heap.size w w1) (h2 : Below w1.heap.size w1 w2) : Below w.heap.size w w2 := h1.trans (h2.mono h1.size)

set_option maxHeartbeats 400000 in
theorem place_any (n i j : Int) (A : Option Addr) (len cap : Nat) (w : World) (hn : 0 ≤ n ∧ n ≤ 6) (hi : 0 ≤ i ∧ i ≤ 6) (hj : 0 ≤ j ∧ j ≤ 6) (p : Int) (hp : i * (n + 1) + j = p) (hb : 0 ≤ i * (n + 1) ∧ i * (n + 1) ≤ 100) :
    Calls Tryd.prog 64 #[zoneV n A len cap, .int .i64 i, .int .i64 j] w (ZRetInt p w) := by
  obtain ⟨n0, n1⟩ := hn
  obtain ⟨i0, i1⟩ := hi
  obtain ⟨j0, j1⟩ := hj
  obtain ⟨b0, b1⟩ := hb
  subst hp
  go_enter Tryd.func64, Tryd.ntmps64
  go_wp2_with fail
  go_ret
  exact ⟨rfl, zboxed _ _⟩

theorem keep_at {W w1 : World} (hb : Below W.heap.size W w1) {g b o : Nat} {x y z : Option Value} (h : g < W.heap.size ∧ b < W.heap.size ∧ W.cell? ⟨g, 0, none⟩ = x ∧ W.cell? ⟨g, 1, none⟩ = y ∧ W.cell? ⟨b, o, none⟩ = z) :
    g < w1.heap.size ∧ b < w1.heap.size ∧ w1.cell? ⟨g, 0, none⟩ = x ∧ w1.cell? ⟨g, 1, none⟩ = y ∧ w1.cell? ⟨b, o, none⟩ = z := by
  have hs := hb.size
  exact ⟨by omega, by omega, by rw [hb.cell (p := ⟨g, 0, none⟩) h.1]; exact h.2.2.1, by rw [hb.cell (p := ⟨g, 1, none⟩) h.1]; exact h.2.2.2.1, by rw [hb.cell (p := ⟨b, o, none⟩) h.2.1]; exact h.2.2.2.2⟩

set_option maxHeartbeats 800000 in
theorem at_any (n i j : Int) (b off len cap t : Nat) (x : Int) (w : World) (hn : 0 ≤ n ∧ n ≤ 6) (hi : 0 ≤ i ∧ i ≤ 6) (hj : 0 ≤ j ∧ j ≤ 6) (hp : i * (n + 1) + j = (t : Int)) (hb : 0 ≤ i * (n + 1) ∧ i * (n + 1) ≤ 100) (ht : t < len) (hbk : b < w.heap.size) (hc : w.cell? ⟨b, off + t, none⟩ = some (.int .i64 x)) :
    Calls Tryd.prog 53 #[zoneV n (some ⟨b, off, none⟩) len cap, .int .i64 i, .int .i64 j] w (ZRetInt x w) := by
  have K0 : Hid (w.heap.size < (w.alloc (.cells #[.int .i64 n, .slice (some ⟨b, off, none⟩) len cap] 39)).drew.heap.size ∧ b < (w.alloc (.cells #[.int .i64 n, .slice (some ⟨b, off, none⟩) len cap] 39)).drew.heap.size ∧ (w.alloc (.cells #[.int .i64 n, .slice (some ⟨b, off, none⟩) len cap] 39)).drew.cell? ⟨w.heap.size, 0, none⟩ = some (.int .i64 n) ∧ (w.alloc (.cells #[.int .i64 n, .slice (some ⟨b, off, none⟩) len cap] 39)).drew.cell? ⟨w.heap.size, 1, none⟩ = some (.slice (some ⟨b, off, none⟩) len cap) ∧ (w.alloc (.cells #[.int .i64 n, .slice (some ⟨b, off, none⟩) len cap] 39)).drew.cell? ⟨b, off + t, none⟩ = some (.int .i64 x)) := Lib.hid ⟨by simp, by simp; omega, by go_simp, by go_simp, by go_simp⟩
  have HP := Lib.hid (fun W => place_any n i j (some ⟨b, off, none⟩) len cap W hn hi hj t hp hb)
  clear hp hb hn hi hj hc
  go_enter Tryd.func53, Tryd.ntmps53
  go_wp2_with fail
  go_region_held3 (fun w' => w.heap.size < w'.heap.size ∧ b < w'.heap.size ∧ w'.cell? ⟨w.heap.size, 0, none⟩ = some (.int .i64 n) ∧ w'.cell? ⟨w.heap.size, 1, none⟩ = some (.slice (some ⟨b, off, none⟩) len cap) ∧ w'.cell? ⟨b, off + t, none⟩ = some (.int .i64 x))
    (first | (with_reducible exact K0.out) | (with_reducible exact keep_at hb1 (by assumption)))
    (first | (go_at_call 64; ((with_reducible refine (HP.out _).mono ?_); rintro e w1 ⟨rfl, hb1⟩)))
  all_goals go_wp2_with fail
  all_goals go_ret
  all_goals exact ⟨rfl, zthen (zboxed _ _).drew hb1⟩
end Go.Proofs.YtlkbapcienjdcaaDoor

/- The contract of fill: n variables' bounds, each as a function tells it, in a row of the call's own. -/
namespace Go.Proofs.YtlkbapcienjdcaaDoor
open Go.RowKit Go.Shelf
attribute [local go_sem] Oper.semAt_some
attribute [local go_sem ↓] Go.wp_at_zero Go.wp_at_succ

theorem zinfo3 : (Tryd.prog.info? 3).map (fun i => (i.zero, i.size, i.bytes)) = some (some (.int .i64 0), 1, 8) := by kernel_rfl
theorem cells_any (x : Int) (w : World) : Calls Tryd.prog 51 #[.int .i64 x] w fun e w' => e = .returned (.func (.func 69) #[] #[.pointer (some ⟨w.heap.size, 0, none⟩)]) ∧ w' = w.alloc (.cells #[.int .i64 x] 3) :=
  (callsIn_wide (n := 3)).1 (cells_in Fence.wide 3 trivial rfl x w)

/-- What the function tells of some rows and columns. -/
def told {m : Nat} (F : Mat) (pre : List (Cell m)) : List Value := pre.map fun x => .int .i64 (F x.1.1 x.1.2)
/-- The bounds, row by row. -/
def flatL (m : Nat) (C : Mat) : List Int := (List.range (m * m)).map fun t => C (t / m) (t % m)
theorem flat_len (m : Nat) (C : Mat) : (flatL m C).length = m * m := by simp [flatL]
theorem told_all {m : Nat} (h : 0 < m) (F : Mat) : told F (spots h (m * m)) = (flatL m F).map (Value.int .i64) := by
  unfold told flatL spots
  rw [List.map_map, List.map_map]
  refine List.map_congr_left fun t ht => ?_
  have ht : t < m * m := by simpa using ht
  show Value.int .i64 (F (t / m % m) (t % m)) = .int .i64 (F (t / m) (t % m))
  rw [Nat.mod_eq_of_lt (Nat.div_lt_of_lt_mul ht)]

/-- A zone of m - 1 variables in a row of the call's own. -/
def RetFill (w : World) (m : Nat) (F : Mat) (e : Ending) (w' : World) : Prop :=
  ∃ v, e = .returned (.agg #[.int .i64 ((m : Int) - 1), v]) ∧ w'.ownsRow w.heap.size 3 1 v (m * m) ((flatL m F).map (Value.int .i64)) ∧ Below w.heap.size w w'

/-- An append within the capacity, met as one operation. -/
theorem wp_fits {P : Program} (w : World) {o : Oper} {a : Act} {K : Act → World → Prop} {Q : Exit → Act → World → Prop} (s x : Operand) (t : TypeId) (hop : o.op = Op.call { callee := Callee.builtin Builtin.append, args := #[s, x], argTypes := #[t, t] })
    (base : Nat) (e : TypeId) (i : TypeInfo) (size : Nat) (h1 : P.underlying t = some (.slice e)) (h2 : P.info? e = some i) (h4 : i.size = size)
    (g k cap : Nat) (xs : List Value) (hs : a.eval s = .slice (some ⟨g, 0, none⟩) k cap) (hown : w.ownsRow base e size (.slice (some ⟨g, 0, none⟩) k cap) k xs) (ad : Addr) (m c : Nat) (news : List Value) (hx : a.eval x = .slice (some ad) m c) (hn : news.length = m * size)
    (hc : ∀ j u, news[j]? = some u → w.cell? (ad.add j) = some u) (h1c : ∀ u ∈ news, u.oneCell' = true) (b1 : k + m ≤ cap)
    (hK : ∀ w', w'.ownsRow base e size (.slice (some ⟨g, 0, none⟩) (k + m) cap) (k + m) (xs ++ news) → w.grownBy w' (some g) → K (a.put o.dst (.slice (some ⟨g, 0, none⟩) (k + m) cap)) w') : o.wp P a w K Q := by
  obtain ⟨w', hrun, r1, r2⟩ := run_append_fits (P := P) w base t o.type e i size h1 h2 h4 g k cap xs hown ad m c news hn hc h1c b1
  unfold Oper.wp
  simp [execOp, hop, resolve, invoke, builtin, hs, hx, hrun, Result.andThen]
  exact hK _ r1 r2

/-- What the loop of fill has made of its blocks: the function's box, the result's, and the zone's, whose row grows. -/
def Filling (w : World) (m g bz fb rb : Nat) (p fv r1 r2 : Value) (k : Nat) (xs : List Value) (W : World) : Prop :=
  Duo W bz 39 p (.slice (some ⟨g, 0, none⟩) k (m * m)) ∧ W.ownsRow (w.heap.size + 1 + 1) 3 1 (.slice (some ⟨g, 0, none⟩) k (m * m)) k xs ∧ Boxed W fb 67 fv ∧ Duo W rb 39 r1 r2 ∧ Below w.heap.size w W
theorem Filling.below {w W W1 : World} {m g bz fb rb k : Nat} {p fv r1 r2 : Value} {xs : List Value} (h : Filling w m g bz fb rb p fv r1 r2 k xs W) (hb : Below W.heap.size W W1) : Filling w m g bz fb rb p fv r1 r2 k xs W1 :=
  ⟨h.1.below hb, own_kept_below h.2.1 hb, boxed_below h.2.2.1 hb, h.2.2.2.1.below hb, h.2.2.2.2.trans (hb.mono h.2.2.2.2.size)⟩
theorem filling_own (w : World) (m g bz fb rb : Nat) (p fv r1 r2 : Value) {α : Type} (f : List α → List Value) (B : Nat) (hB : w.heap.size ≤ B) : OwnFrom B (fun (pre : List α) W => Filling w m g bz fb rb p fv r1 r2 pre.length (f pre) W) := by
  intro s X Y row h hg hr
  have hr' : ∀ r, row = some r → ∃ o : Obj, X.heap[r]? = some o ∧ o.isCells = false := fun r e => (hr r e).2
  exact ⟨cells_own h.1 hg hr', row_own h.2.1 hg hr', cells_own h.2.2.1 hg hr', cells_own h.2.2.2.1 hg hr', h.2.2.2.2.grown hg h.2.2.2.2.size (fun r e => Nat.le_trans hB (hr r e).1)⟩
theorem own_lower {W : World} {base base' : Nat} {e : TypeId} {size k : Nat} {v : Value} {xs : List Value} (h : W.ownsRow base e size v k xs) (hb : base' ≤ base) : W.ownsRow base' e size v k xs := by
  refine ⟨h.1, ?_⟩
  rcases h.2 with h | ⟨g, cap, cur, h1, h2, h3⟩
  · exact .inl h
  · exact .inr ⟨g, cap, cur, h1, Nat.le_trans hb h2, h3⟩
theorem told_snoc {m : Nat} (F : Mat) (pre : List (Cell m)) (x : Cell m) : told F (pre ++ [x]) = told F pre ++ [.int .i64 (F x.1.1 x.1.2)] := by simp [told]
/-- Behind the append. -/
theorem filling_mid {w W W1 W3 : World} {m g bz fb rb k : Nat} {o : Obj} {p fv r1 r2 : Value} {xs : List Value} (n1 : g ≠ bz) (n2 : g ≠ fb)
    (h : Filling w m g bz fb rb p fv r1 r2 k xs W) (hb : Below W.heap.size W W1) (hg : (W1.alloc o).grownBy W3 (some g)) : Duo W3 bz 39 p (.slice (some ⟨g, 0, none⟩) k (m * m)) ∧ Boxed W3 fb 67 fv := by
  have h1 := h.below hb
  exact ⟨(h1.1.alloc o).kept hg (by simpa using fun e => n1 e.symm), (h1.2.2.1.alloc o).kept hg (by simpa using fun e => n2 e.symm)⟩
/-- Behind the store. -/
theorem filling_step {w W W1 W3 : World} {m g bz fb rb cb : Nat} {F : Mat} {o : Obj} {p fv r1 r2 : Value} {pre : List (Cell m)} (x : Cell m) (ne : g ≠ bz ∧ g ≠ fb ∧ g ≠ rb ∧ g ≠ cb ∧ bz ≠ fb ∧ bz ≠ rb ∧ bz ≠ cb ∧ w.heap.size ≤ g ∧ w.heap.size ≤ bz ∧ cb < W.heap.size)
    (h : Filling w m g bz fb rb p fv r1 r2 pre.length (told F pre) W) (hb : Below W.heap.size W W1) (hown' : W3.ownsRow (w.heap.size + 1 + 1) 3 1 (.slice (some ⟨g, 0, none⟩) (pre.length + 1) (m * m)) (pre.length + 1) (told F pre ++ [.int .i64 (F x.1.1 x.1.2)])) (hg : (W1.alloc o).grownBy W3 (some g)) (B : Nat) :
    KeepsFrom B W (W3.setCell ⟨bz, 1, none⟩ (.slice (some ⟨g, 0, none⟩) (pre.length + 1) (m * m))) ∧ CellKept cb W (W3.setCell ⟨bz, 1, none⟩ (.slice (some ⟨g, 0, none⟩) (pre.length + 1) (m * m))) ∧
    Filling w m g bz fb rb p fv r1 r2 (pre ++ [x]).length (told F (pre ++ [x])) (W3.setCell ⟨bz, 1, none⟩ (.slice (some ⟨g, 0, none⟩) (pre.length + 1) (m * m))) ∧ cb < (W3.setCell ⟨bz, 1, none⟩ (.slice (some ⟨g, 0, none⟩) (pre.length + 1) (m * m))).heap.size := by
  obtain ⟨n1, n2, n3, n4, n5, n6, n7, l1, l2, l3⟩ := ne
  have h1 := h.below hb
  obtain ⟨hz3, hf3⟩ := filling_mid n1 n2 h hb hg
  have hr3 : Duo W3 rb 39 r1 r2 := (h1.2.2.2.1.alloc o).kept hg (by simpa using fun e => n3 e.symm)
  have hB3 : Below w.heap.size w W3 := (h1.2.2.2.2.alloc h1.2.2.2.2.size o).grown hg (h1.2.2.2.2.alloc h1.2.2.2.2.size o).size (fun r e => by cases e; exact l1)
  have hk3 : KeepsFrom B W W3 := ((keeps_below hb B).trans ((KeepsOthers.alloc W1 o).from B)).trans (keeps_own (h1.2.1.alloc o) hg B)
  have hk4 := hk3.trans (keeps_setCell W3 ⟨bz, 1, none⟩ (.slice (some ⟨g, 0, none⟩) (pre.length + 1) (m * m)) B)
  refine ⟨hk4, ?_, ⟨?_, ?_, boxed_other hf3 (fun e => n5 e.symm) _, hr3.other (fun e => n6 e.symm) _, hB3.setCell (p := ⟨bz, 1, none⟩) l2 _⟩, Nat.lt_of_lt_of_le l3 hk4.size⟩
  · show (W3.setCell _ _).cell? ⟨cb, 0, none⟩ = W.cell? ⟨cb, 0, none⟩
    have e1 : (W3.setCell ⟨bz, 1, none⟩ (.slice (some ⟨g, 0, none⟩) (pre.length + 1) (m * m))).heap[cb]? = W3.heap[cb]? := (duo_grown_setCell W3 ⟨bz, 1, none⟩ _).block cb (by have := hb.size; have := hg.size; simp at this; omega) (by simpa using fun e => n7 e.symm)
    have e2 : W3.heap[cb]? = (W1.alloc o).heap[cb]? := hg.block cb (by have := hb.size; simp; omega) (by simpa using fun e => n4 e.symm)
    have e3 : (W1.alloc o).heap[cb]? = W1.heap[cb]? := (World.grownBy_alloc W1 o none).block cb (by have := hb.size; omega) (by simp)
    have e4 : W1.heap[cb]? = W.heap[cb]? := hb.block cb l3
    exact World.cell?_of_block (a := ⟨cb, 0, none⟩) (e1.trans (e2.trans (e3.trans e4)))
  · rw [List.length_append]; exact hz3.set1 _
  · rw [told_snoc, List.length_append]
    exact hown'.kept (duo_grown_setCell _ _ _) (.inr (by simp [Value.ownBlock]; exact n1))

set_option maxRecDepth 100000 in
set_option maxHeartbeats 4000000 in
theorem fill_any (fk : FuncId) (caps : Array Value) (m : Nat) (hm7 : m ≤ 7) (h0m : 0 < m) (F : Mat) (w : World) (eg : ∀ args W, (callFunc fk args).run Tryd.prog W = .ok (.enter fk args) W)
    (hf : ∀ i j W, i < m → j < m → Below w.heap.size w W → Calls Tryd.prog fk (#[.int .i64 (i : Int), .int .i64 (j : Int)] ++ caps) W (ZRetInt (F i j) W)) :
    Calls Tryd.prog 40 #[.int .i64 ((m : Int) - 1), .func (.func fk) #[] caps] w (RetFill w m F) := by
  have HF := Lib.hid hf
  have hmm : 0 ≤ (m : Int) * m ∧ (m : Int) * m ≤ 49 := by
    have h1 : m * m ≤ 7 * 7 := Nat.mul_le_mul hm7 hm7
    have h2 : ((m * m : Nat) : Int) = (m : Int) * m := by simp
    omega
  have hmn : ((m * m : Nat) : Int) = (m : Int) * m := by simp
  have HMN := Lib.hid hmn
  have hm1 : (m : Int) - 1 + 1 = m := by omega
  clear hf hmn
  obtain ⟨i0, hi, hi0, hi1, hi2⟩ := info_parts zinfo3
  refine (callsIn_wide (n := 3)).1 ?_
  refine callsIn_of_wp_marks Tryd.func40 rfl trivial ?_ rfl
  simp only [Tryd.ntmps40, List.size_toArray, List.length_cons, List.length_nil, Nat.reduceAdd, Nat.reduceSub, Array.replicate_succ, Array.replicate_zero, List.push_toArray, List.append_toArray, List.nil_append, List.cons_append]
  refine wpIn_wide.2 ?_
  have hN : m * m ≤ 49 := by
    have h1 : m * m ≤ 7 * 7 := Nat.mul_le_mul hm7 hm7
    omega
  have HN := Lib.hid hN
  clear hN
  go_wp2_with (first
    | (at_make; refine wpList_make_own _ rfl (.const (.int .i64 0)) (.tmp 13) 29 rfl (w.heap.size + 1 + 1) 3 i0 (.int .i64 0) 1 Tryd.underlying29 hi hi0 hi1 .i64 .i64 _ (m * m) rfl rfl HMN.out.symm (by rw [hi2]; have := HN.out; omega) (by have := HN.out; unfold maxLen; omega) (by simp <;> omega) ?_; intro w1 hown1 hgrow1)
    | (go_at_call 51; ((with_reducible refine (cells_any _ _).mono ?_); rintro e w2 ⟨rfl, rfl⟩)))
  have hs1 := hgrow1.size
  simp at hs1
  simp only [World.size_alloc] at hown1
  have hs2 : w.heap.size + 1 + 1 < w1.heap.size := (hown1.lt _ rfl).2
  have hB1 : Below w.heap.size w w1 := ((((Below.refl _ w).alloc (Nat.le_refl _) _).alloc (by simp) _)).grown hgrow1 (by simp; omega) (fun r e => by cases e)
  have hI0 : Filling w m (w.heap.size + 1 + 1) w1.heap.size w.heap.size (w.heap.size + 1) (.int .i64 ((m : Int) - 1)) (.func (.func fk) #[] caps) (.int .i64 0) (.slice none 0 0) 0 [] ((w1.alloc (.cells #[.int .i64 ((m : Int) - 1), .slice (some ⟨w.heap.size + 1 + 1, 0, none⟩) 0 (m * m)] 39)).alloc (.cells #[.int .i64 ((m : Int) - 1)] 3)) := by
    refine ⟨(Duo.new w1 _ _ _).alloc _, (hown1.alloc _).alloc _, ?_, ?_, (hB1.alloc hB1.size _).alloc (hB1.alloc hB1.size _).size _⟩
    · refine Boxed.alloc (Boxed.alloc (Boxed.kept ?_ hgrow1 (by simp)) _) _
      exact (Boxed.new w _ _).alloc _
    · refine Duo.alloc (Duo.alloc (Duo.kept ?_ hgrow1 (by simp)) _) _
      have h := Duo.new (w.alloc (.cells #[.func (.func fk) #[] caps] 67)) 39 (.int .i64 0) (.slice none 0 0)
      rw [World.size_alloc] at h
      exact h
  have hcb := Boxed.new (w1.alloc (.cells #[.int .i64 ((m : Int) - 1), .slice (some ⟨w.heap.size + 1 + 1, 0, none⟩) 0 (m * m)] 39)) 3 (.int .i64 ((m : Int) - 1))
  rw [World.size_alloc] at hcb
  have hN := HN.out
  refine (wpIn_wide (n := 3)).1 ?_
  refine wpIn_rangeFunc_ownG rfl (by omega) (gf := 69) (lb := #[.pointer (some ⟨w1.heap.size + 1, 0, none⟩)]) rfl trivial (enters_of Tryd.func69 (by kernel_rfl) rfl)
    (cells_stops Fence.wide 2 trivial rfl (by omega) (w1.heap.size + 1) m hm7 h0m _ (by simp) hcb.cell) cellKept_t (cellKept_b (by simp)) (Below.refl _ _) (fun _ => rfl)
    (fun pre W => Filling w m (w.heap.size + 1 + 1) w1.heap.size w.heap.size (w.heap.size + 1) (.int .i64 ((m : Int) - 1)) (.func (.func fk) #[] caps) (.int .i64 0) (.slice none 0 0) pre.length (told F pre) W ∧ w1.heap.size + 1 < W.heap.size)
    (fun _ _ _ => False)
    (OwnFrom.and (filling_own w m _ _ _ _ _ _ _ _ (told F) _ (by simp; omega)) (fun _ _ _ _ h hg _ => Nat.lt_of_lt_of_le h hg.size)) (fun _ _ _ _ _ h _ _ => h) ⟨hI0, by simp⟩
    (fun x => { tmps := #[.int .i64 ((m : Int) - 1), .func (.func fk) #[] caps, undef, .pointer (some ⟨w.heap.size, 0, none⟩), .pointer (some ⟨w.heap.size + 1, 0, none⟩), .pointer (some ⟨w1.heap.size, 0, none⟩), .int .i64 (x.1.1 : Int), .int .i64 (x.1.2 : Int), .int .i64 ((m : Int) - 1), .int .i64 ((m : Int) - 1), .int .i64 m, .int .i64 ((m : Int) - 1), .int .i64 m, .int .i64 ((m : Int) * m), .slice (some ⟨w.heap.size + 1 + 1, 0, none⟩) 0 (m * m), .agg #[.int .i64 ((m : Int) - 1), .slice (some ⟨w.heap.size + 1 + 1, 0, none⟩) 0 (m * m)], .int .i64 ((m : Int) - 1), .func (.func 69) #[] #[.pointer (some ⟨w1.heap.size + 1, 0, none⟩)], .int .i64 (x.1.1 : Int), .int .i64 (x.1.2 : Int), undef, undef, undef, undef, undef, undef, undef, undef, undef, undef], defers := [] }) ?assign ?body ?done ?stop
  case assign =>
    intro l x W K hK
    gi_wp2
    exact hK
  case body =>
    rintro l pre ⟨⟨i, j⟩, hi2', hj2⟩ W ⟨hFil, hcbW⟩ hlen
    dsimp only at hi2' hj2 ⊢
    have hz0 := hFil.1.cell1
    have hne : (w.heap.size + 1 + 1 ≠ w1.heap.size ∧ w.heap.size + 1 + 1 ≠ w.heap.size ∧ w.heap.size + 1 + 1 ≠ w.heap.size + 1 ∧ w.heap.size + 1 + 1 ≠ w1.heap.size + 1 ∧ w1.heap.size ≠ w.heap.size ∧ w1.heap.size ≠ w.heap.size + 1 ∧ w1.heap.size ≠ w1.heap.size + 1 ∧ w.heap.size ≤ w.heap.size + 1 + 1 ∧ w.heap.size ≤ w1.heap.size ∧ w1.heap.size + 1 < W.heap.size) := by omega
    obtain ⟨B0, hB0⟩ : ∃ B0, B0 = ((w1.alloc (.cells #[.int .i64 ((m : Int) - 1), .slice (some ⟨w.heap.size + 1 + 1, 0, none⟩) 0 (m * m)] 39)).alloc (.cells #[.int .i64 ((m : Int) - 1)] 3)).heap.size := ⟨_, rfl⟩
    gi_wp2
    refine wpIn_held (S := fun W' => W'.cell? ⟨w.heap.size, 0, none⟩ = some (.func (.func fk) #[] caps)) (by kernel_rfl) (by kernel_rfl) (by rintro ⟨_, _, h⟩; exact h) hFil.2.2.1.cell (fun hH0 => ?_)
    simp only [List.size_toArray, List.length_cons, List.length_nil, Nat.reduceAdd, Array.replicate_succ, Array.replicate_zero, List.push_toArray, List.nil_append, List.cons_append]
    refine wpAnyH_take (i := 0) (oi := ⟨some 20, _, _, _, _, _⟩) (v := ?_) rfl (by kernel_rfl) (by kernel_rfl) (by kernel_rfl) (fun _ _ _ h => h) (Or.inl ⟨by rfl, ?_⟩) hH0 ?_
    rotate_left
    · intro w hSw
      try dsimp only at hSw
      go_simp
      try with_reducible rfl
    try simp only [Act.put, List.setIfInBounds_toArray, List.set_cons_zero, List.set_cons_succ]
    refine wpAnyH_take (i := 2) (oi := ⟨some 22, _, _, _, _, _⟩) (v := ?_) rfl (by kernel_rfl) (by kernel_rfl) (by kernel_rfl) (fun _ _ _ h => h) (Or.inl ⟨by rfl, ?_⟩) hH0 ?_
    rotate_left
    · intro w hSw
      try dsimp only at hSw
      go_simp
      try with_reducible rfl
    try simp only [Act.put, List.setIfInBounds_toArray, List.set_cons_zero, List.set_cons_succ]
    refine wpAnyH_take (i := 3) (oi := ⟨some 23, _, _, _, _, _⟩) (v := ?_) rfl (by kernel_rfl) (by kernel_rfl) (by kernel_rfl) (fun _ _ _ h => h) (Or.inl ⟨by rfl, ?_⟩) hH0 ?_
    rotate_left
    · intro w hSw
      try dsimp only at hSw
      go_simp
      try with_reducible rfl
    try simp only [Act.put, List.setIfInBounds_toArray, List.set_cons_zero, List.set_cons_succ]
    refine wpAnyH_take (i := 4) (oi := ⟨some 24, _, _, _, _, _⟩) (v := ?_) rfl (by kernel_rfl) (by kernel_rfl) (by kernel_rfl) (fun _ _ _ h => h) (Or.inl ⟨by rfl, ?_⟩) hH0 ?_
    rotate_left
    · intro w hSw
      try dsimp only at hSw
      go_simp
      try with_reducible rfl
    try simp only [Act.put, List.setIfInBounds_toArray, List.set_cons_zero, List.set_cons_succ]
    refine wpAnyH_ready (rs := [1, 5]) (by kernel_rfl) (by simp) ?_
    refine (AllReadyH.cons (o := ⟨some 21, _, _, _, _, _⟩) rfl (fun K hK => ?_) (AllReadyH.cons (o := ⟨some 25, _, _, _, _, _⟩) rfl (fun K hK => ?_) AllReadyH.nil))
    · go_simp
      refine hK.out _ _ (hFil.2.2.1.cell) (fun hL1 => ?_)
      clear hK K
      try simp only [List.setIfInBounds_toArray, List.set_cons_zero, List.set_cons_succ]
      refine wpAnyH_ready (rs := [5]) (by kernel_rfl) (by simp) ?_
      refine (AllReadyH.cons (o := ⟨some 25, _, _, _, _, _⟩) rfl (fun K hK => ?_) AllReadyH.nil)
      go_simp
      refine (HF.out i j _ hi2' hj2 hFil.2.2.2.2.drew).mono ?_
      rintro e W1 ⟨rfl, hb1⟩
      have hb : Below W.heap.size W W1 := ⟨hb1.os, hb1.tape, hb1.output, hb1.size, hb1.block⟩
      have hF1 := hFil.below hb
      have hz1 := hF1.1.cell1
      have hl1 := hF1.1.lt
      go_wp2_with fail
      refine hK.out _ _ (hF1.2.2.1.cell) (fun hC => ?_)
      clear hK K
      try simp only [List.setIfInBounds_toArray, List.set_cons_zero, List.set_cons_succ]
      refine wpAnyH_ready (rs := [6]) (by kernel_rfl) (by simp) ?_
      refine (AllReadyH.cons (o := ⟨some 26, _, _, _, _, _⟩) rfl (fun K hK => ?_) AllReadyH.nil)
      go_simp
      refine hK.out _ _ ((hF1.2.2.1.alloc _).cell) (fun hA => ?_)
      clear hK K
      try simp only [List.setIfInBounds_toArray, List.set_cons_zero, List.set_cons_succ]
      refine wpAnyH_ready (rs := [7]) (by kernel_rfl) (by simp) ?_
      refine (AllReadyH.cons (o := ⟨some 27, _, _, _, _, _⟩) rfl (fun K hK => ?_) AllReadyH.nil)
      rw [if_pos (by rfl)]
      refine wp_fits _ (.tmp 21) (.tmp 26) 29 rfl (w.heap.size + 1 + 1) 3 i0 1 Tryd.underlying29 hi hi1 _ _ _ _ rfl (hF1.2.1.alloc _) ⟨W1.heap.size, 0, none⟩ 1 1 [.int .i64 (F i j)] rfl rfl (cell_one_new _ _ _) (by simp [Value.oneCell']) (by omega) ?_
      intro W3 hown3 hgrow3
      have hMid := filling_mid hne.1 hne.2.1 hFil hb hgrow3
      have hSt := filling_step (cb := w1.heap.size + 1) ⟨(i, j), hi2', hj2⟩ hne hFil hb hown3 hgrow3 B0
      have hz3 := hMid.1.cell1
      have hf3 := hMid.1.frozen1
      refine hK.out _ _ (hMid.2.cell) (fun hP => ?_)
      clear hK K
      try simp only [List.setIfInBounds_toArray, List.set_cons_zero, List.set_cons_succ]
      refine wpAnyH_take (i := 8) (oi := ⟨some 28, _, _, _, _, _⟩) (v := ?_) rfl (by kernel_rfl) (by kernel_rfl) (by kernel_rfl) (fun _ _ _ h => h) (Or.inl ⟨by rfl, ?_⟩) hP ?_
      rotate_left
      · intro w hSw
        try dsimp only at hSw
        go_simp
        try with_reducible rfl
      try simp only [Act.put, List.setIfInBounds_toArray, List.set_cons_zero, List.set_cons_succ]
      refine wpAnyH_ready (rs := [9]) (by kernel_rfl) (by simp) ?_
      refine (AllReadyH.cons (o := ⟨none, _, _, _, _, _⟩) rfl (fun K hK => ?_) AllReadyH.nil)
      go_simp
      refine hK.out _ _ (hSt.2.2.1.2.2.1.cell) (fun hE => ?_)
      clear hK K
      try simp only [List.setIfInBounds_toArray, List.set_cons_zero, List.set_cons_succ]
      refine wpAnyH_done (by kernel_rfl) ?_ _
      rw [hB0] at hSt
      exact hSt
    · go_simp
      refine (HF.out i j _ hi2' hj2 hFil.2.2.2.2.drew).mono ?_
      rintro e W1 ⟨rfl, hb1⟩
      have hb : Below W.heap.size W W1 := ⟨hb1.os, hb1.tape, hb1.output, hb1.size, hb1.block⟩
      have hF1 := hFil.below hb
      have hz1 := hF1.1.cell1
      have hl1 := hF1.1.lt
      go_wp2_with fail
      refine hK.out _ _ (hF1.2.2.1.cell) (fun hC => ?_)
      clear hK K
      try simp only [List.setIfInBounds_toArray, List.set_cons_zero, List.set_cons_succ]
      refine wpAnyH_ready (rs := [1, 6]) (by kernel_rfl) (by simp) ?_
      refine (AllReadyH.cons (o := ⟨some 21, _, _, _, _, _⟩) rfl (fun K hK => ?_) (AllReadyH.cons (o := ⟨some 26, _, _, _, _, _⟩) rfl (fun K hK => ?_) AllReadyH.nil))
      · go_simp
        refine hK.out _ _ (hF1.2.2.1.cell) (fun hL1 => ?_)
        clear hK K
        try simp only [List.setIfInBounds_toArray, List.set_cons_zero, List.set_cons_succ]
        refine wpAnyH_ready (rs := [6]) (by kernel_rfl) (by simp) ?_
        refine (AllReadyH.cons (o := ⟨some 26, _, _, _, _, _⟩) rfl (fun K hK => ?_) AllReadyH.nil)
        go_simp
        refine hK.out _ _ ((hF1.2.2.1.alloc _).cell) (fun hA => ?_)
        clear hK K
        try simp only [List.setIfInBounds_toArray, List.set_cons_zero, List.set_cons_succ]
        refine wpAnyH_ready (rs := [7]) (by kernel_rfl) (by simp) ?_
        refine (AllReadyH.cons (o := ⟨some 27, _, _, _, _, _⟩) rfl (fun K hK => ?_) AllReadyH.nil)
        rw [if_pos (by rfl)]
        refine wp_fits _ (.tmp 21) (.tmp 26) 29 rfl (w.heap.size + 1 + 1) 3 i0 1 Tryd.underlying29 hi hi1 _ _ _ _ rfl (hF1.2.1.alloc _) ⟨W1.heap.size, 0, none⟩ 1 1 [.int .i64 (F i j)] rfl rfl (cell_one_new _ _ _) (by simp [Value.oneCell']) (by omega) ?_
        intro W3 hown3 hgrow3
        have hMid := filling_mid hne.1 hne.2.1 hFil hb hgrow3
        have hSt := filling_step (cb := w1.heap.size + 1) ⟨(i, j), hi2', hj2⟩ hne hFil hb hown3 hgrow3 B0
        have hz3 := hMid.1.cell1
        have hf3 := hMid.1.frozen1
        refine hK.out _ _ (hMid.2.cell) (fun hP => ?_)
        clear hK K
        try simp only [List.setIfInBounds_toArray, List.set_cons_zero, List.set_cons_succ]
        refine wpAnyH_take (i := 8) (oi := ⟨some 28, _, _, _, _, _⟩) (v := ?_) rfl (by kernel_rfl) (by kernel_rfl) (by kernel_rfl) (fun _ _ _ h => h) (Or.inl ⟨by rfl, ?_⟩) hP ?_
        rotate_left
        · intro w hSw
          try dsimp only at hSw
          go_simp
          try with_reducible rfl
        try simp only [Act.put, List.setIfInBounds_toArray, List.set_cons_zero, List.set_cons_succ]
        refine wpAnyH_ready (rs := [9]) (by kernel_rfl) (by simp) ?_
        refine (AllReadyH.cons (o := ⟨none, _, _, _, _, _⟩) rfl (fun K hK => ?_) AllReadyH.nil)
        go_simp
        refine hK.out _ _ (hSt.2.2.1.2.2.1.cell) (fun hE => ?_)
        clear hK K
        try simp only [List.setIfInBounds_toArray, List.set_cons_zero, List.set_cons_succ]
        refine wpAnyH_done (by kernel_rfl) ?_ _
        rw [hB0] at hSt
        exact hSt
      · go_simp
        refine hK.out _ _ ((hF1.2.2.1.alloc _).cell) (fun hA => ?_)
        clear hK K
        try simp only [List.setIfInBounds_toArray, List.set_cons_zero, List.set_cons_succ]
        refine wpAnyH_ready (rs := [1]) (by kernel_rfl) (by simp) ?_
        refine (AllReadyH.cons (o := ⟨some 21, _, _, _, _, _⟩) rfl (fun K hK => ?_) AllReadyH.nil)
        go_simp
        refine hK.out _ _ ((hF1.2.2.1.alloc _).cell) (fun hL1 => ?_)
        clear hK K
        try simp only [List.setIfInBounds_toArray, List.set_cons_zero, List.set_cons_succ]
        refine wpAnyH_ready (rs := [7]) (by kernel_rfl) (by simp) ?_
        refine (AllReadyH.cons (o := ⟨some 27, _, _, _, _, _⟩) rfl (fun K hK => ?_) AllReadyH.nil)
        rw [if_pos (by rfl)]
        refine wp_fits _ (.tmp 21) (.tmp 26) 29 rfl (w.heap.size + 1 + 1) 3 i0 1 Tryd.underlying29 hi hi1 _ _ _ _ rfl (hF1.2.1.alloc _) ⟨W1.heap.size, 0, none⟩ 1 1 [.int .i64 (F i j)] rfl rfl (cell_one_new _ _ _) (by simp [Value.oneCell']) (by omega) ?_
        intro W3 hown3 hgrow3
        have hMid := filling_mid hne.1 hne.2.1 hFil hb hgrow3
        have hSt := filling_step (cb := w1.heap.size + 1) ⟨(i, j), hi2', hj2⟩ hne hFil hb hown3 hgrow3 B0
        have hz3 := hMid.1.cell1
        have hf3 := hMid.1.frozen1
        refine hK.out _ _ (hMid.2.cell) (fun hP => ?_)
        clear hK K
        try simp only [List.setIfInBounds_toArray, List.set_cons_zero, List.set_cons_succ]
        refine wpAnyH_take (i := 8) (oi := ⟨some 28, _, _, _, _, _⟩) (v := ?_) rfl (by kernel_rfl) (by kernel_rfl) (by kernel_rfl) (fun _ _ _ h => h) (Or.inl ⟨by rfl, ?_⟩) hP ?_
        rotate_left
        · intro w hSw
          try dsimp only at hSw
          go_simp
          try with_reducible rfl
        try simp only [Act.put, List.setIfInBounds_toArray, List.set_cons_zero, List.set_cons_succ]
        refine wpAnyH_ready (rs := [9]) (by kernel_rfl) (by simp) ?_
        refine (AllReadyH.cons (o := ⟨none, _, _, _, _, _⟩) rfl (fun K hK => ?_) AllReadyH.nil)
        go_simp
        refine hK.out _ _ (hSt.2.2.1.2.2.1.cell) (fun hE => ?_)
        clear hK K
        try simp only [List.setIfInBounds_toArray, List.set_cons_zero, List.set_cons_succ]
        refine wpAnyH_done (by kernel_rfl) ?_ _
        rw [hB0] at hSt
        exact hSt
  case done =>
    rintro D ys W hD rfl ⟨hFil, hcbW⟩ hK
    have c0 := hFil.1.cell0
    have c1 := hFil.1.cell1
    have d0 := hFil.2.2.2.1.cell0
    have d1 := hFil.2.2.2.1.cell1
    have f0 := hFil.2.2.2.1.frozen0
    have f1 := hFil.2.2.2.1.frozen1
    go_wp2_with fail
    have hK2 := ((KeepsOthers.setCell W ⟨w.heap.size + 1, 0, none⟩ (.int .i64 ((m : Int) - 1))).trans (KeepsOthers.setCell _ ⟨w.heap.size + 1, 1, none⟩ (.slice (some ⟨w.heap.size + 1 + 1, 0, none⟩) (spots h0m (m * m)).length (m * m)))).same D _ hK rfl
    refine ⟨by simp, .inl ⟨_, _, rfl, run_takeDeferred hK2, ?_⟩⟩
    have n1 : w.heap.size + 1 ≠ D := by simp at hD; omega
    have hR := ((hFil.2.2.2.1.set0 (.int .i64 ((m : Int) - 1))).set1 (.slice (some ⟨w.heap.size + 1 + 1, 0, none⟩) (spots h0m (m * m)).length (m * m))).kept (grownBy_putObj' _ D (.deferred none)) (by simpa using n1)
    have r0 := hR.cell0
    have r1 := hR.cell1
    refine ⟨.agg #[.int .i64 ((m : Int) - 1), .slice (some ⟨w.heap.size + 1 + 1, 0, none⟩) (spots h0m (m * m)).length (m * m)], ?_, ?_⟩
    · simp [results, Tryd.results40, go_sem, r0, r1]
    · have hB := (hFil.2.2.2.2.setCell (p := ⟨w.heap.size + 1, 0, none⟩) (by simp) (.int .i64 ((m : Int) - 1))).setCell (p := ⟨w.heap.size + 1, 1, none⟩) (by simp) (.slice (some ⟨w.heap.size + 1 + 1, 0, none⟩) (spots h0m (m * m)).length (m * m))
      have hO := (hFil.2.1.kept (duo_grown_setCell W ⟨w.heap.size + 1, 0, none⟩ (.int .i64 ((m : Int) - 1))) (.inr (by simp [Value.ownBlock]))).kept (duo_grown_setCell _ ⟨w.heap.size + 1, 1, none⟩ (.slice (some ⟨w.heap.size + 1 + 1, 0, none⟩) (spots h0m (m * m)).length (m * m))) (.inr (by simp [Value.ownBlock]))
      have hO2 := ownsRow_putObj hO (.deferred none) hK2 rfl
      have hBB := hB.trans (belowK_b (w := w) (Nat.le_refl _) _ D _ (.deferred none) (by simp at hD; omega) hK2 rfl rfl)
      rw [told_all, spots_len] at hO2
      rw [spots_len] at hBB ⊢
      exact ⟨_, rfl, own_lower hO2 (by omega), hBB⟩
  case stop =>
    rintro D c pre W _ _ h _
    exact h.elim
end Go.Proofs.YtlkbapcienjdcaaDoor
