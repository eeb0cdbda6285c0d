/- Plain mathematics of zones: bounds of how far numbers are apart, closed by taking each variable on the way in turn. Nothing of the program stands here. -/
namespace Go.Proofs.YtlddelnbjihhgaaGreatDoor

/-- How far two variables are apart at most. -/
def far (i j : Nat) : Int := if i = j then 0 else if i = 0 ∨ j = 0 then 1152921504606846976 else 2305843009213693952
theorem far_same (i : Nat) : far i i = 0 := by unfold far; rw [if_pos rfl]
theorem far_cases (i j : Nat) : (i = j ∧ far i j = 0) ∨ (i ≠ j ∧ (i = 0 ∨ j = 0) ∧ far i j = 1152921504606846976) ∨ (i ≠ j ∧ i ≠ 0 ∧ j ≠ 0 ∧ far i j = 2305843009213693952) := by
  unfold far
  by_cases h : i = j
  · rw [if_pos h]; exact Or.inl ⟨h, rfl⟩
  · rw [if_neg h]
    by_cases h2 : i = 0 ∨ j = 0
    · rw [if_pos h2]; exact Or.inr (Or.inl ⟨h, h2, rfl⟩)
    · rw [if_neg h2]; exact Or.inr (Or.inr ⟨h, fun e => h2 (Or.inl e), fun e => h2 (Or.inr e), rfl⟩)
theorem far_nonneg (i j : Nat) : 0 ≤ far i j ∧ far i j ≤ 2305843009213693952 := by rcases far_cases i j with h | h | h <;> omega
theorem far_symm (i j : Nat) : far i j = far j i := by rcases far_cases i j with h | h | h <;> rcases far_cases j i with g | g | g <;> omega
theorem far_tri (i j k : Nat) : far i j ≤ far i k + far k j := by
  rcases far_cases i j with h | h | h <;> rcases far_cases i k with g | g | g <;> rcases far_cases k j with f | f | f <;> omega
theorem far_zero {i : Nat} (h : i ≠ 0) : far i 0 = 1152921504606846976 ∧ far 0 i = 1152921504606846976 := by
  rcases far_cases i 0 with g | g | g <;> rcases far_cases 0 i with f | f | f <;> omega

/-- Bounds, by row and column. -/
abbrev Mat := Nat → Nat → Int

/-- Each bound made no greater than two variables may be apart. -/
def cap (A : Mat) : Mat := fun i j => min (A i j) (far i j)
/-- One variable taken on the way. -/
def via (D : Mat) (k : Nat) : Mat := fun i j => min (D i j) (D i k + D k j)
/-- The first k variables taken on the way, in turn. -/
def lev (A : Mat) : Nat → Mat
  | 0 => cap A
  | k + 1 => via (lev A k) k

/-- No bound of the first m variables is below what two can be apart. -/
def Fits (m : Nat) (D : Mat) : Prop := ∀ i j, i < m → j < m → -far i j ≤ D i j
/-- The sums by way of k are not below that. -/
def Fit (m : Nat) (D : Mat) (k : Nat) : Prop := ∀ i j, i < m → j < m → -far i j ≤ D i k + D k j
/-- All goes well: there is a point. -/
def Alive (m : Nat) (A : Mat) : Prop := Fits m (cap A) ∧ ∀ k, k < m → Fit m (lev A k) k
def ClosedTo (m K : Nat) (D : Mat) : Prop := ∀ x i j, x < K → i < m → j < m → D i j ≤ D i x + D x j
def Same (m : Nat) (D E : Mat) : Prop := ∀ i j, i < m → j < m → D i j = E i j

theorem cap_le (A : Mat) (i j : Nat) : cap A i j ≤ A i j ∧ cap A i j ≤ far i j := by unfold cap; omega
theorem via_le (D : Mat) (k i j : Nat) : via D k i j ≤ D i j ∧ via D k i j ≤ D i k + D k j := by unfold via; omega
theorem lev_le_cap (A : Mat) (k i j : Nat) : lev A k i j ≤ cap A i j := by
  induction k with
  | zero => exact Int.le_refl _
  | succ k ih => exact Int.le_trans (via_le _ _ _ _).1 ih

/-- While all goes well: the diagonal is 0, all bounds are in range, what was taken on the way is closed. -/
theorem lev_good {m : Nat} {A : Mat} (h : Alive m A) : ∀ K, K ≤ m → (∀ i, i < m → lev A K i i = 0) ∧ Fits m (lev A K) ∧ ClosedTo m K (lev A K) := by
  intro K
  induction K with
  | zero =>
    intro _
    refine ⟨fun i hi => ?_, h.1, fun x _ _ hx => absurd hx (Nat.not_lt_zero _)⟩
    have h1 := h.1 i i hi hi
    have h2 := (cap_le A i i).2
    rw [far_same] at h1 h2
    show cap A i i = 0
    omega
  | succ K ih =>
    intro hK
    obtain ⟨d0, fits, clo⟩ := ih (by omega)
    have fk := h.2 K (by omega)
    have dK := d0 K (by omega)
    have fits' : Fits m (lev A (K + 1)) := fun i j hi hj => by
      have := fits i j hi hj; have := fk i j hi hj
      show -far i j ≤ min _ _
      omega
    refine ⟨fun i hi => ?_, fits', fun x i j hx hi hj => ?_⟩
    · have h1 := fits' i i hi hi
      have h2 := (via_le (lev A K) K i i).1
      rw [d0 i hi] at h2
      rw [far_same] at h1
      show via (lev A K) K i i = 0
      have h3 : -0 ≤ via (lev A K) K i i := h1
      omega
    · show via (lev A K) K i j ≤ via (lev A K) K i x + via (lev A K) K x j
      by_cases hxK : x = K
      · subst hxK
        unfold via
        rw [dK]
        omega
      · have hx' : x < K := by omega
        have c1 := clo x i j hx' hi hj
        have c2 := clo x K j hx' (by omega) hj
        have c3 := clo x i K hx' hi (by omega)
        have c4 := clo x K K hx' (by omega) (by omega)
        unfold via
        rw [dK] at c4
        omega

/-- What is closed. -/
structure Closed (m : Nat) (C : Mat) : Prop where
  diag : ∀ i, i < m → C i i = 0
  near : ∀ i j, i < m → j < m → C i j ≤ far i j
  tri : ∀ k i j, k < m → i < m → j < m → C i j ≤ C i k + C k j
theorem Closed.low {m : Nat} {C : Mat} (h : Closed m C) {i j : Nat} (hi : i < m) (hj : j < m) : -far i j ≤ C i j := by
  have h1 := h.tri j i i hj hi hi
  have h2 := h.near j i hj hi
  rw [h.diag i hi] at h1
  rw [far_symm j i] at h2
  omega
theorem Closed.bd {m : Nat} {C : Mat} (h : Closed m C) {i j : Nat} (hi : i < m) (hj : j < m) : -2305843009213693952 ≤ C i j ∧ C i j ≤ 2305843009213693952 := by
  have h1 := h.near i j hi hj
  have h2 := h.low hi hj
  have h3 := far_nonneg i j
  omega
theorem Closed.congr {m : Nat} {C D : Mat} (h : Closed m C) (e : Same m C D) : Closed m D :=
  ⟨fun i hi => by rw [← e i i hi hi]; exact h.diag i hi, fun i j hi hj => by rw [← e i j hi hj]; exact h.near i j hi hj,
   fun k i j hk hi hj => by rw [← e i j hi hj, ← e i k hi hk, ← e k j hk hj]; exact h.tri k i j hk hi hj⟩

theorem lev_closed {m : Nat} {A : Mat} (h : Alive m A) : Closed m (lev A m) := by
  obtain ⟨d0, -, clo⟩ := lev_good h m (Nat.le_refl _)
  exact ⟨d0, fun i j hi hj => Int.le_trans (lev_le_cap A m i j) (cap_le A i j).2, fun k i j hk hi hj => clo k i j hk hi hj⟩
/-- What is closed, and not above the bounds, is not above what comes of them. -/
theorem lev_greatest {m : Nat} {A X : Mat} (hx : Closed m X) (hle : ∀ i j, i < m → j < m → X i j ≤ A i j) : ∀ K, K ≤ m → ∀ i j, i < m → j < m → X i j ≤ lev A K i j := by
  intro K
  induction K with
  | zero => intro _ i j hi hj; show _ ≤ min _ _; have := hle i j hi hj; have := hx.near i j hi hj; omega
  | succ K ih =>
    intro hK i j hi hj
    have h1 := ih (by omega) i j hi hj
    have h2 := ih (by omega) i K hi (by omega)
    have h3 := ih (by omega) K j (by omega) hj
    have h4 := hx.tri K i j (by omega) hi hj
    show _ ≤ min _ _
    omega
/-- If something closed is not above the bounds, all goes well. -/
theorem alive_of {m : Nat} {A X : Mat} (hx : Closed m X) (hle : ∀ i j, i < m → j < m → X i j ≤ A i j) : Alive m A := by
  refine ⟨fun i j hi hj => Int.le_trans (hx.low hi hj) (lev_greatest hx hle 0 (Nat.zero_le _) i j hi hj), fun k hk i j hi hj => ?_⟩
  have h2 := lev_greatest hx hle k (by omega) i k hi hk
  have h3 := lev_greatest hx hle k (by omega) k j hk hj
  have h4 := hx.tri k i j hk hi hj
  have h5 := hx.low hi hj
  omega
/-- Bounds that are closed stay so. -/
theorem lev_same {m : Nat} {C : Mat} (h : Closed m C) : Alive m C ∧ Same m (lev C m) C := by
  refine ⟨alive_of h (fun _ _ _ _ => Int.le_refl _), fun i j hi hj => ?_⟩
  have h1 := lev_greatest h (fun _ _ _ _ => Int.le_refl _) m (Nat.le_refl _) i j hi hj
  have h2 := lev_le_cap C m i j
  have h3 := (cap_le C i j).1
  omega
/-- What comes of bounds hangs on them alone. -/
theorem lev_congr {m : Nat} {A B : Mat} (h : Same m (cap A) (cap B)) : ∀ K, K ≤ m → Same m (lev A K) (lev B K) := by
  intro K
  induction K with
  | zero => intro _; exact h
  | succ K ih =>
    intro hK i j hi hj
    have e := ih (by omega)
    show min _ _ = min _ _
    rw [e i j hi hj, e i K hi (by omega), e K j (by omega) hj]
theorem alive_congr {m : Nat} {A B : Mat} (h : Same m (cap A) (cap B)) (a : Alive m A) : Alive m B := by
  refine ⟨fun i j hi hj => by rw [← h i j hi hj]; exact a.1 i j hi hj, fun k hk i j hi hj => ?_⟩
  rw [← lev_congr h k (by omega) i k hi hk, ← lev_congr h k (by omega) k j hk hj]
  exact a.2 k hk i j hi hj
theorem same_symm {m : Nat} {A B : Mat} (h : Same m A B) : Same m B A := fun i j hi hj => (h i j hi hj).symm
theorem same_trans {m : Nat} {A B C : Mat} (h : Same m A B) (g : Same m B C) : Same m A C := fun i j hi hj => (h i j hi hj).trans (g i j hi hj)
theorem cap_congr {m : Nat} {A B : Mat} (h : Same m A B) : Same m (cap A) (cap B) := fun i j hi hj => by unfold cap; rw [h i j hi hj]
theorem cap_cap {m : Nat} (A : Mat) : Same m (cap (cap A)) (cap A) := fun i j _ _ => by unfold cap; omega

/- Points. -/
/-- A point: the numbers of the variables, that of variable 0 being 0. -/
structure Pt (m : Nat) (A : Mat) (p : Nat → Int) : Prop where
  zero : p 0 = 0
  whole : ∀ i, i < m → -1152921504606846976 ≤ p i ∧ p i ≤ 1152921504606846976
  holds : ∀ i j, i < m → j < m → p i - p j ≤ A i j
/-- A point, as bounds. -/
def pmat (p : Nat → Int) : Mat := fun i j => p i - p j
theorem pmat_closed {m : Nat} {A : Mat} {p : Nat → Int} (h : Pt m A p) : Closed m (pmat p) := by
  refine ⟨fun i _ => by unfold pmat; omega, fun i j hi hj => ?_, fun k i j _ _ _ => by unfold pmat; omega⟩
  have h1 := h.whole i hi
  have h2 := h.whole j hj
  have h0 := h.zero
  unfold pmat far
  split
  · next e => subst e; omega
  · split
    · next e => rcases e with rfl | rfl <;> omega
    · omega
theorem alive_pt {m : Nat} {A : Mat} {p : Nat → Int} (h : Pt m A p) : Alive m A ∧ Pt m (lev A m) p := by
  have hc := pmat_closed h
  exact ⟨alive_of hc h.holds, h.zero, h.whole, fun i j hi hj => lev_greatest hc h.holds m (Nat.le_refl _) i j hi hj⟩
theorem pt_of_lev {m : Nat} {A : Mat} {p : Nat → Int} (h : Pt m (lev A m) p) : Pt m A p :=
  ⟨h.zero, h.whole, fun i j hi hj => Int.le_trans (h.holds i j hi hj) (Int.le_trans (lev_le_cap A m i j) (cap_le A i j).1)⟩
theorem pt_le {m : Nat} {A B : Mat} {p : Nat → Int} (h : Pt m A p) (hle : ∀ i j, i < m → j < m → A i j ≤ B i j) : Pt m B p := ⟨h.zero, h.whole, fun i j hi hj => Int.le_trans (h.holds i j hi hj) (hle i j hi hj)⟩
/-- Each bound is reached: the column of j is a point. -/
theorem pt_col {m : Nat} {C : Mat} (h : Closed m C) (h0 : 0 < m) {j : Nat} (hj : j < m) : Pt m C (fun k => if k < m then C k j - C 0 j else 0) := by
  refine ⟨by rw [if_pos h0]; omega, fun i hi => ?_, fun i k hi hk => ?_⟩
  · rw [if_pos hi]
    have h1 := h.tri 0 i j h0 hi hj
    have h2 := h.tri i 0 j hi h0 hj
    have h3 := h.near i 0 hi h0
    have h4 := h.near 0 i h0 hi
    by_cases e : i = 0
    · subst e; omega
    · have := far_zero e; omega
  · rw [if_pos hi, if_pos hk]
    have := h.tri k i j hk hi hj
    omega
/-- The row of j, too. -/
theorem pt_row {m : Nat} {C : Mat} (h : Closed m C) (h0 : 0 < m) {j : Nat} (hj : j < m) : Pt m C (fun k => if k < m then C j 0 - C j k else 0) := by
  refine ⟨by rw [if_pos h0]; omega, fun i hi => ?_, fun i k hi hk => ?_⟩
  · rw [if_pos hi]
    have h1 := h.tri 0 j i h0 hj hi
    have h2 := h.tri i j 0 hi hj h0
    have h3 := h.near i 0 hi h0
    have h4 := h.near 0 i h0 hi
    by_cases e : i = 0
    · subst e; omega
    · have := far_zero e; omega
  · rw [if_pos hi, if_pos hk]
    have := h.tri i j k hi hj hk
    omega
/-- All points of a closed one are in the other one just if no bound is above. -/
theorem le_of_pts {m : Nat} {C A : Mat} (h : Closed m C) (h0 : 0 < m) (all : ∀ p, Pt m C p → Pt m A p) : ∀ i j, i < m → j < m → C i j ≤ A i j := by
  intro i j hi hj
  have := (all _ (pt_col h h0 hj)).holds i j hi hj
  rw [if_pos hi, if_pos hj, h.diag j hj] at this
  omega
theorem same_of_pts {m : Nat} {C D : Mat} (h : Closed m C) (g : Closed m D) (h0 : 0 < m) (all : ∀ p, Pt m C p ↔ Pt m D p) : Same m C D := by
  intro i j hi hj
  have h1 := le_of_pts h h0 (fun p => (all p).1) i j hi hj
  have h2 := le_of_pts g h0 (fun p => (all p).2) i j hi hj
  omega

/- The document's way: all bounds made smaller at once, by all others. -/
/-- The least sum by way of one of the first k. -/
def least (D : Mat) (i j : Nat) : Nat → Int
  | 0 => D i j
  | k + 1 => min (least D i j k) (D i k + D k j)
def shr (m : Nat) (D : Mat) : Mat := fun i j => least D i j m
theorem least_le (D : Mat) (i j K : Nat) : least D i j K ≤ D i j ∧ ∀ k, k < K → least D i j K ≤ D i k + D k j := by
  induction K with
  | zero => exact ⟨Int.le_refl _, fun k h => absurd h (Nat.not_lt_zero _)⟩
  | succ K ih =>
    have e : least D i j (K + 1) = min (least D i j K) (D i K + D K j) := rfl
    refine ⟨by have := ih.1; omega, fun k hk => ?_⟩
    by_cases h : k = K
    · subst h; omega
    · have := ih.2 k (by omega); omega
theorem least_ge {D : Mat} {i j : Nat} {x : Int} (K : Nat) (h0 : x ≤ D i j) (h : ∀ k, k < K → x ≤ D i k + D k j) : x ≤ least D i j K := by
  induction K with
  | zero => exact h0
  | succ K ih => have := ih (fun k hk => h k (by omega)); have := h K (by omega); show x ≤ min _ _; omega
/-- So many rounds. -/
def shrN (m : Nat) (A : Mat) : Nat → Mat
  | 0 => cap A
  | r + 1 => shr m (shrN m A r)
theorem shrN_greatest {m : Nat} {A X : Mat} (hx : Closed m X) (hle : ∀ i j, i < m → j < m → X i j ≤ A i j) : ∀ r i j, i < m → j < m → X i j ≤ shrN m A r i j := by
  intro r
  induction r with
  | zero => intro i j hi hj; show _ ≤ min _ _; have := hle i j hi hj; have := hx.near i j hi hj; omega
  | succ r ih =>
    intro i j hi hj
    refine least_ge m (ih i j hi hj) (fun k hk => ?_)
    have h2 := ih i k hi hk
    have h3 := ih k j hk hj
    have h4 := hx.tri k i j hk hi hj
    omega
theorem shrN_le_lev {m : Nat} {A : Mat} : ∀ r, r ≤ m → ∀ i j, i < m → j < m → shrN m A r i j ≤ lev A r i j := by
  intro r
  induction r with
  | zero => intro _ i j _ _; exact Int.le_refl _
  | succ r ih =>
    intro hr i j hi hj
    have h1 := ih (by omega) i j hi hj
    have h2 := ih (by omega) i r hi (by omega)
    have h3 := ih (by omega) r j (by omega) hj
    have l := least_le (shrN m A r) i j m
    have l2 := l.2 r (by omega)
    show least _ _ _ _ ≤ min _ _
    omega
theorem shrN_mono {m : Nat} {A : Mat} (r i j : Nat) : shrN m A (r + 1) i j ≤ shrN m A r i j := (least_le _ _ _ _).1
/-- Where all goes well both ways come to the same, behind m rounds and on. -/
theorem shrN_lev {m : Nat} {A : Mat} (h : Alive m A) : ∀ r, m ≤ r → Same m (shrN m A r) (lev A m) := by
  have hc := lev_closed h
  have hA : ∀ i j, i < m → j < m → lev A m i j ≤ A i j := fun i j _ _ => Int.le_trans (lev_le_cap A m i j) (cap_le A i j).1
  intro r hr i j hi hj
  have h1 := shrN_greatest hc hA r i j hi hj
  have h2 : shrN m A r i j ≤ lev A m i j := by
    induction r with
    | zero => obtain rfl : m = 0 := by omega
              exact absurd hi (Nat.not_lt_zero _)
    | succ r ih =>
      by_cases e : m = r + 1
      · rw [← e]; exact shrN_le_lev m (Nat.le_refl _) i j hi hj
      · have := shrN_mono (m := m) (A := A) r i j
        have := ih (by omega) (shrN_greatest hc hA r i j hi hj)
        omega
  omega
/-- No round leaves the range where all goes well. -/
theorem shrN_fits {m : Nat} {A : Mat} (h : Alive m A) (r : Nat) : Fits m (shrN m A r) := fun i j hi hj => by
  have hc := lev_closed h
  have h1 := shrN_greatest hc (fun i j _ _ => Int.le_trans (lev_le_cap A m i j) (cap_le A i j).1) r i j hi hj
  have h2 := hc.low hi hj
  omega
/-- If no round of m leaves the range, all goes well. -/
theorem alive_of_fits {m : Nat} {A : Mat} (h : ∀ r, r ≤ m → Fits m (shrN m A r)) : Alive m A := by
  refine ⟨fun i j hi hj => h 0 (Nat.zero_le _) i j hi hj, fun k hk i j hi hj => ?_⟩
  have h1 := h (k + 1) (by omega) i j hi hj
  have h2 := shrN_le_lev (m := m) (A := A) k (by omega) i k hi hk
  have h3 := shrN_le_lev (m := m) (A := A) k (by omega) k j hk hj
  have h4 := (least_le (shrN m A k) i j m).2 k hk
  have h5 : shrN m A (k + 1) i j = least (shrN m A k) i j m := rfl
  omega
end Go.Proofs.YtlddelnbjihhgaaGreatDoor
