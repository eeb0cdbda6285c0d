/- The numbers for which a value is told, by counting all; the least one; all that is told. -/
import Derived.Test.YtcolinjgfcjimaaCLaw
import Derived.Test.YtcolinjgfcjimaaCRefMath
namespace Go.Proofs.Ytcolinjgfcjimaa
open Go.RowKit

theorem and_pow {a V : Nat} (h : a.testBit V = false) : a &&& 2 ^ V = 0 := by
  apply Nat.eq_of_testBit_eq
  intro j
  rw [Nat.testBit_and, Nat.testBit_two_pow]
  by_cases hj : V = j
  · subst hj
    simp [h]
  · simp [hj]
theorem or_pow_le (a V : Nat) : a ||| 2 ^ V ≤ a + 2 ^ V := by
  cases h : a.testBit V
  · rw [add_or (and_pow h)]
    exact Nat.le_refl _
  · have : a ||| 2 ^ V = a := by
      apply Nat.eq_of_testBit_eq
      intro j
      rw [Nat.testBit_or, Nat.testBit_two_pow]
      by_cases hj : V = j
      · subst hj
        simp [h]
      · simp [hj]
    rw [this]
    exact Nat.le_add_right _ _
/-- How many numbers of n bits have P. -/
def cnt (n : Nat) (P : Nat → Bool) : Nat := (List.range (2 ^ n)).countP P
theorem cnt_congr {n : Nat} {P Q : Nat → Bool} (h : ∀ i, i < 2 ^ n → P i = Q i) : cnt n P = cnt n Q := by
  unfold cnt
  refine List.countP_congr fun x hx => ?_
  rw [h x (List.mem_range.1 hx)]
theorem cnt_succ (n : Nat) (P : Nat → Bool) : cnt (n + 1) P = cnt n P + cnt n fun i => P (2 ^ n ||| i) := by
  have e : cnt n (fun i => P (2 ^ n ||| i)) = (List.range (2 ^ n)).countP fun i => P (2 ^ n + i) := by
    refine List.countP_congr fun x hx => ?_
    have hlt := List.mem_range.1 hx
    rw [add_or (show 2 ^ n &&& x = 0 by rw [Nat.and_comm]; exact and_pow (Nat.testBit_lt_two_pow hlt))]
  rw [e]
  unfold cnt
  rw [Nat.pow_succ, Nat.mul_two, List.range_add, List.countP_append, List.countP_map]
  rfl
theorem cnt_two (n : Nat) (P Q : Nat → Bool) : cnt n P = cnt n (fun i => P i && !Q i) + cnt n fun i => P i && Q i := by
  unfold cnt
  generalize List.range (2 ^ n) = l
  induction l with
  | nil => rfl
  | cons x l ih =>
    simp only [List.countP_cons]
    rw [ih]
    cases P x <;> cases Q x <;> simp <;> omega
theorem cnt_none (n : Nat) {P : Nat → Bool} (h : ∀ i, i < 2 ^ n → P i = false) : cnt n P = 0 := by
  unfold cnt
  rw [List.countP_eq_zero]
  intro x hx
  rw [h x (List.mem_range.1 hx)]
  simp
theorem or_self_bit (n i : Nat) : (2 ^ n ||| i).testBit n = true := by
  rw [Nat.testBit_or, Nat.testBit_two_pow]; simp
theorem or_other_bit {n u : Nat} (i : Nat) (h : u ≠ n) : (2 ^ n ||| i).testBit u = i.testBit u := by
  rw [Nat.testBit_or, Nat.testBit_two_pow]
  have : decide (n = u) = false := decide_eq_false fun e => h e.symm
  simp [this]
/-- What does not hang on a bit holds as often with it as without it. -/
theorem cnt_half : ∀ (n v : Nat), v < n → ∀ P : Nat → Bool, (∀ i j : Nat, (∀ u, u ≠ v → i.testBit u = j.testBit u) → P i = P j) → cnt n (fun i => P i && !i.testBit v) = cnt n fun i => P i && i.testBit v
  | 0, v, h, _, _ => absurd h (Nat.not_lt_zero _)
  | n + 1, v, h, P, hP => by
    rw [cnt_succ, cnt_succ]
    by_cases hv : v = n
    · subst hv
      have e1 : cnt v (fun i => P i && !i.testBit v) = cnt v P := cnt_congr fun i hi => by rw [Nat.testBit_lt_two_pow hi]; simp
      have e2 : cnt v (fun i => P (2 ^ v ||| i) && !(2 ^ v ||| i).testBit v) = 0 := cnt_none v fun i _ => by rw [or_self_bit]; simp
      have e3 : cnt v (fun i => P i && i.testBit v) = 0 := cnt_none v fun i hi => by rw [Nat.testBit_lt_two_pow hi]; simp
      have e4 : cnt v (fun i => P (2 ^ v ||| i) && (2 ^ v ||| i).testBit v) = cnt v P := cnt_congr fun i _ => by
        rw [or_self_bit, hP (2 ^ v ||| i) i fun u hu => or_other_bit i hu]; simp
      rw [e1, e2, e3, e4]
      omega
    · have h1 := cnt_half n v (by omega) P hP
      have h2 := cnt_half n v (by omega) (fun i => P (2 ^ n ||| i)) fun i j hij => hP _ _ fun u hu => by
        rw [Nat.testBit_or, Nat.testBit_or, hij u hu]
      have e1 : cnt n (fun i => P (2 ^ n ||| i) && !(2 ^ n ||| i).testBit v) = cnt n fun i => P (2 ^ n ||| i) && !i.testBit v := cnt_congr fun i _ => by rw [or_other_bit i hv]
      have e2 : cnt n (fun i => P (2 ^ n ||| i) && (2 ^ n ||| i).testBit v) = cnt n fun i => P (2 ^ n ||| i) && i.testBit v := cnt_congr fun i _ => by rw [or_other_bit i hv]
      rw [e1, e2, h1, h2]
theorem cnt_side {n v : Nat} (hv : v < n) {P : Nat → Bool} (hP : ∀ i j : Nat, (∀ u, u ≠ v → i.testBit u = j.testBit u) → P i = P j) : cnt n (fun i => P i && !i.testBit v) = cnt n P / 2 ∧ cnt n (fun i => P i && i.testBit v) = cnt n P / 2 := by
  have h1 := cnt_half n v hv P hP
  have h2 := cnt_two n P fun i => i.testBit v
  omega
/-- Is val told for a number? -/
def toldB (L : List Nd) (val r : Int) (i : Nat) : Bool := decide (valueP (endP L i r) = val)
section
variable {L : List Nd}
theorem told_flip (hR : RightL L) {val r : Int} {v : Nat} (hv : (v : Int) < varP L r) : ∀ i j : Nat, (∀ u, u ≠ v → i.testBit u = j.testBit u) → toldB L val r i = toldB L val r j := fun i j h => by
  unfold toldB
  rw [endP_flip hR (r + 1).toNat r (by omega) fun u hu => h u (by omega)]
theorem sat_is (hR : RightL L) (n : Nat) (val : Int) : ∀ r, (∀ t, Reach L r t → t < 0 ∨ varP L t < (n : Int)) → hasP L.length r = true → satN L n val r = cnt n (toldB L val r) := by
  refine down hR (fun r hr _ _ => ?_) fun k x hx q2 q3 h2 h3 hb _ => ?_
  · rw [show satN L n val r = if valueP r = val then 2 ^ n else 0 from fold_out hr]
    unfold cnt toldB
    simp only [endP_out hr]
    by_cases h : valueP r = val
    · simp [h]
    · simp [h]
  · obtain ⟨x1, x2, x3⟩ := x
    obtain ⟨⟨v0, v1⟩, -, ⟨-, l2⟩, -, l3⟩ := hR.1 _ _ hx
    dsimp only at v0 v1 l2 l3 h2 h3 q2 q3
    obtain ⟨V, rfl⟩ : ∃ V : Nat, x1 = (V : Int) := ⟨x1.toNat, by omega⟩
    have hVn : V < n := by
      have := hb _ .self
      rw [varP_at hx] at this
      dsimp only at this
      omega
    have e2 := h2 (fun t ht => hb t (Reach.trans (.low .self hx) ht)) q2
    have e3 := h3 (fun t ht => hb t (Reach.trans (.high .self hx) ht)) q3
    rw [show satN L n val (k : Int) = satN L n val x2 / 2 + satN L n val x3 / 2 from fold_node hR hx, e2, e3]
    have s2 := (cnt_side hVn (told_flip hR (val := val) l2)).1
    have s3 := (cnt_side hVn (told_flip hR (val := val) l3)).2
    rw [cnt_two n (toldB L val (k : Int)) fun i => i.testBit V]
    have f2 : cnt n (fun i => toldB L val (k : Int) i && !i.testBit V) = cnt n fun i => toldB L val x2 i && !i.testBit V := cnt_congr fun i _ => by
      unfold toldB
      rw [endP_node hR i hx]
      cases h : i.testBit V
      · simp [h]
      · simp
    have f3 : cnt n (fun i => toldB L val (k : Int) i && i.testBit V) = cnt n fun i => toldB L val x3 i && i.testBit V := cnt_congr fun i _ => by
      unfold toldB
      rw [endP_node hR i hx]
      cases h : i.testBit V
      · simp
      · simp [h]
    rw [f2, f3, s2, s3]
theorem one_told (hR : RightL L) (val : Int) : ∀ r, oneN L val r < 4096 → valueP (endP L (oneN L val r) r) = val ∧ ∀ j : Nat, (oneN L val r).testBit j = true → varP L r ≤ (j : Int) := by
  refine down hR (fun r hr h => ?_) fun k x hx _ _ h2 h3 h => ?_
  · rw [show oneN L val r = if valueP r = val then 0 else 4096 from fold_out hr] at h ⊢
    by_cases hv : valueP r = val
    · rw [if_pos hv]
      exact ⟨by rw [endP_out hr]; exact hv, fun j hj => by simp at hj⟩
    · rw [if_neg hv] at h; omega
  · obtain ⟨x1, x2, x3⟩ := x
    obtain ⟨⟨v0, v1⟩, -, ⟨-, l2⟩, -, l3⟩ := hR.1 _ _ hx
    dsimp only at v0 v1 l2 l3 h2 h3
    obtain ⟨V, rfl⟩ : ∃ V : Nat, x1 = (V : Int) := ⟨x1.toNat, by omega⟩
    rw [varP_at hx]
    dsimp only
    have e : oneN L val (k : Int) = min (oneN L val x2) (oneN L val x3 ||| 2 ^ V) := fold_node hR hx
    rw [e] at h ⊢
    by_cases hm : oneN L val x2 ≤ oneN L val x3 ||| 2 ^ V
    · rw [Nat.min_eq_left hm] at h ⊢
      obtain ⟨t2, b2⟩ := h2 h
      refine ⟨?_, fun j hj => by have := b2 j hj; omega⟩
      have hb : (oneN L val x2).testBit V = false := by
        cases hh : (oneN L val x2).testBit V
        · rfl
        · have := b2 V hh; omega
      rw [endP_node hR _ hx]
      dsimp only
      rw [Int.toNat_natCast, hb]
      exact t2
    · rw [Nat.min_eq_right (by omega)] at h ⊢
      have hlt : oneN L val x3 < 4096 := Nat.lt_of_le_of_lt Nat.left_le_or h
      obtain ⟨t3, b3⟩ := h3 hlt
      refine ⟨?_, fun j hj => ?_⟩
      · rw [endP_node hR _ hx]
        dsimp only
        rw [Int.toNat_natCast, Nat.or_comm, or_self_bit, if_pos rfl, endP_flip hR (x3 + 1).toNat x3 (by omega) (c := oneN L val x3) fun u hu => or_other_bit _ (by omega)]
        exact t3
      · rw [Nat.or_comm] at hj
        by_cases hjV : j = V
        · omega
        · rw [or_other_bit _ hjV] at hj
          have := b3 j hj
          omega
theorem one_least (hR : RightL L) (val : Int) : ∀ r (n : Nat), n < 4096 → valueP (endP L n r) = val → oneN L val r ≤ n := by
  refine down hR (fun r hr n hn h => ?_) fun k x hx _ _ h2 h3 n hn h => ?_
  · rw [endP_out hr] at h
    rw [show oneN L val r = if valueP r = val then 0 else 4096 from fold_out hr, if_pos h]
    exact Nat.zero_le _
  · obtain ⟨x1, x2, x3⟩ := x
    obtain ⟨⟨v0, v1⟩, -, ⟨-, l2⟩, -, l3⟩ := hR.1 _ _ hx
    dsimp only at v0 v1 l2 l3 h2 h3
    obtain ⟨V, rfl⟩ : ∃ V : Nat, x1 = (V : Int) := ⟨x1.toNat, by omega⟩
    have e : oneN L val (k : Int) = min (oneN L val x2) (oneN L val x3 ||| 2 ^ V) := fold_node hR hx
    rw [e]
    rw [endP_node hR _ hx] at h
    dsimp only at h
    rw [Int.toNat_natCast] at h
    cases hb : n.testBit V
    · rw [hb] at h
      exact Nat.le_trans (Nat.min_le_left _ _) (h2 n hn h)
    · rw [hb, if_pos rfl] at h
      have hn' : 2 ^ V ||| (setBit n V false) = n := by
        apply Nat.eq_of_testBit_eq
        intro j
        by_cases hj : j = V
        · subst hj
          rw [or_self_bit, hb]
        · rw [or_other_bit _ hj, setBit_other n false hj]
      have h0 : (setBit n V false) &&& 2 ^ V = 0 := and_pow (setBit_at _ _ _)
      have hs : (setBit n V false) + 2 ^ V = n := by
        rw [← add_or h0, Nat.or_comm]; exact hn'
      have h3' := h3 (setBit n V false) (setBit_lt false hn (by omega)) (by
        rw [endP_flip hR (x3 + 1).toNat x3 (by omega) (c := n) fun u hu => setBit_other n false (by omega)]
        exact h)
      refine Nat.le_trans (Nat.min_le_right _ _) ?_
      exact Nat.le_trans (or_pow_le (oneN L val x3) V) (hs ▸ Nat.add_le_add_right h3' _)
theorem told_reach (hR : RightL L) (b : Nat) : ∀ r, Reach L r (endP L b r) := by
  refine down hR (fun r hr => by rw [endP_out hr]; exact .self) fun k x hx _ _ h2 h3 => ?_
  rw [endP_node hR b hx]
  split
  · exact Reach.trans (.high .self hx) h3
  · exact Reach.trans (.low .self hx) h2
theorem reach_told (hR : RightL L) : ∀ r t, Reach L r t → t < 0 → ∃ n, n < 4096 ∧ endP L n r = t := by
  refine down hR (fun r hr t ht _ => ⟨0, by omega, by rw [endP_out hr, reach_out hr ht]⟩) fun k x hx _ _ h2 h3 t ht h0 => ?_
  obtain ⟨x1, x2, x3⟩ := x
  obtain ⟨⟨v0, v1⟩, -, ⟨-, l2⟩, -, l3⟩ := hR.1 _ _ hx
  dsimp only at v0 v1 l2 l3 h2 h3
  obtain ⟨V, rfl⟩ : ∃ V : Nat, x1 = (V : Int) := ⟨x1.toNat, by omega⟩
  rcases reach_node hx ht with h | h | h
  · omega
  · obtain ⟨n, hn, he⟩ := h2 t h h0
    refine ⟨setBit n V false, setBit_lt false hn (by omega), ?_⟩
    rw [endP_node hR _ hx]
    dsimp only
    rw [Int.toNat_natCast, setBit_at, if_neg (by decide), endP_flip hR (x2 + 1).toNat x2 (by omega) (c := n) fun u hu => setBit_other n false (by omega)]
    exact he
  · obtain ⟨n, hn, he⟩ := h3 t h h0
    refine ⟨setBit n V true, setBit_lt true hn (by omega), ?_⟩
    rw [endP_node hR _ hx]
    dsimp only
    rw [Int.toNat_natCast, setBit_at, if_pos rfl, endP_flip hR (x3 + 1).toNat x3 (by omega) (c := n) fun u hu => setBit_other n true (by omega)]
    exact he
end
end Go.Proofs.Ytcolinjgfcjimaa
