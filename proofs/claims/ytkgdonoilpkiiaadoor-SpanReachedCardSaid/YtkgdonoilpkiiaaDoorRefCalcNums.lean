/- What the document's Calc of spans reckons, plainly, and that it is what the program's does. -/
import Derived.Test.YtkgdonoilpkiiaaDoorCalcNone
import Derived.Test.YtkgdonoilpkiiaaDoorRefOne
namespace Go.Proofs.YtkgdonoilpkiiaaDoor

theorem ends_succ (C : Nat → List Int) (n : Nat) : EndsOf C (n + 1) = EndsOf C n ++ C n := rfl
theorem mem_ends {C : Nat → List Int} {x : Int} {n : Nat} : x ∈ EndsOf C n ↔ ∃ k, k < n ∧ x ∈ C k := by
  induction n with
  | zero => simp [EndsOf]
  | succ n ih =>
    unfold EndsOf
    rw [List.mem_append, ih]
    constructor
    · rintro (⟨k, hk, h⟩ | h)
      · exact ⟨k, by omega, h⟩
      · exact ⟨n, by omega, h⟩
    · rintro ⟨k, hk, h⟩
      rcases Nat.lt_or_ge k n with c | c
      · exact Or.inl ⟨k, c, h⟩
      · obtain rfl : k = n := by omega
        exact Or.inr h
theorem getD_at {l : List Int} {i : Nat} (h : i < l.length) : l.getD i 0 = l[i] := by simp [List.getD, List.getElem?_eq_getElem h]
theorem getD_in {l : List Int} {i : Nat} (h : i < l.length) : l.getD i 0 ∈ l := by
  rw [getD_at h]; exact List.getElem_mem h
theorem in_getD {l : List Int} {x : Int} (h : x ∈ l) : ∃ i, i < l.length ∧ l.getD i 0 = x := by
  obtain ⟨i, hi, e⟩ := List.getElem_of_mem h
  exact ⟨i, hi, by rw [getD_at hi]; exact e⟩
theorem hull_lists {xs ys : List Int} (h1 : ∀ x, x ∈ xs → ∃ y, y ∈ ys ∧ cut x = cut y) (h2 : ∀ y, y ∈ ys → ∃ x, x ∈ xs ∧ cut x = cut y) :
    hullL (fun j => xs.getD j 0) xs.length = hullL (fun j => ys.getD j 0) ys.length ∧ hullH (fun j => xs.getD j 0) xs.length = hullH (fun j => ys.getD j 0) ys.length := by
  match xs, ys with
  | [], [] => exact ⟨rfl, rfl⟩
  | [], y :: ys => obtain ⟨x, hx, _⟩ := h2 y (by simp); cases hx
  | x :: xs, [] => obtain ⟨y, hy, _⟩ := h1 x (by simp); cases hy
  | x :: xs, y :: ys =>
    refine hull_same (by simp) (by simp) ?_ ?_
    · intro i hi
      obtain ⟨z, hz, e⟩ := h1 _ (getD_in hi)
      obtain ⟨j, hj, e'⟩ := in_getD hz
      exact ⟨j, hj, by rw [e']; exact e⟩
    · intro j hj
      obtain ⟨z, hz, e⟩ := h2 _ (getD_in hj)
      obtain ⟨i, hi, e'⟩ := in_getD hz
      exact ⟨i, hi, by rw [e']; exact e⟩
theorem cut_in' (n : Int) : cut (cut n) = cut n := by
  rcases cut_cases n with c | c | c
  · rw [c.2]; decide
  · rw [c.2]; decide
  · rw [c.2.2, c.2.2]
theorem inB_cut (n : Int) : inB (cut n) = inB n := by
  rcases cut_cases n with c | c | c
  · rw [c.2]
    have e : inB 1152921504606846977 = false := by decide
    rw [e]
    cases h : inB n
    · rfl
    · have := of_inB h; omega
  · rw [c.2]
    have e : inB (-1152921504606846977) = false := by decide
    rw [e]
    cases h : inB n
    · rfl
    · have := of_inB h; omega
  · rw [c.2.2]
theorem wrB_iff {f : Nat → Int} {W0 : Bool} {n : Nat} : wrB f W0 n = true ↔ (W0 = true ∨ ∃ j, j < n ∧ inB (f j) = false) := by
  induction n with
  | zero => show W0 = true ↔ _; simp
  | succ n ih =>
    show (wrB f W0 n || !inB (f n)) = true ↔ _
    rw [Bool.or_eq_true, ih]
    constructor
    · rintro ((h | ⟨j, hj, h⟩) | h)
      · exact Or.inl h
      · exact Or.inr ⟨j, by omega, h⟩
      · exact Or.inr ⟨n, by omega, by simpa using h⟩
    · rintro (h | ⟨j, hj, h⟩)
      · exact Or.inl (Or.inl h)
      · rcases Nat.lt_or_ge j n with c | c
        · exact Or.inl (Or.inr ⟨j, c, h⟩)
        · obtain rfl : j = n := by omega
          exact Or.inr (by rw [h]; rfl)

/-- The document's bool, behind k rounds. -/
def rwB (C : Nat → List Int) (W0 : Bool) : Nat → Bool
  | 0 => W0
  | k + 1 => rwB C W0 k || (C k).any (fun n => !inB n)
theorem rwB_iff {C : Nat → List Int} {W0 : Bool} {n : Nat} : rwB C W0 n = true ↔ (W0 = true ∨ ∃ x, x ∈ EndsOf C n ∧ inB x = false) := by
  induction n with
  | zero => show W0 = true ↔ _; simp [EndsOf]
  | succ n ih =>
    show (rwB C W0 n || (C n).any (fun n => !inB n)) = true ↔ _
    rw [Bool.or_eq_true, ih, List.any_eq_true, ends_succ]
    constructor
    · rintro ((h | ⟨x, hx, h⟩) | ⟨x, hx, h⟩)
      · exact Or.inl h
      · exact Or.inr ⟨x, by rw [List.mem_append]; exact Or.inl hx, h⟩
      · exact Or.inr ⟨x, by rw [List.mem_append]; exact Or.inr hx, by simpa using h⟩
    · rintro (h | ⟨x, hx, h⟩)
      · exact Or.inl (Or.inl h)
      · rw [List.mem_append] at hx
        rcases hx with hx | hx
        · exact Or.inl (Or.inr ⟨x, hx, h⟩)
        · exact Or.inr ⟨x, hx, by rw [h]; rfl⟩

/-- What is tried of b. -/
def okY (op c d y : Int) : Prop := (y = c ∨ y = d ∨ (op = 3 ∧ c ≤ 1 ∧ 1 ≤ d ∧ y = 1) ∨ (op = 3 ∧ c ≤ -1 ∧ -1 ≤ d ∧ y = -1)) ∧ ¬ (op = 3 ∧ y = 0)
theorem not_same {a b c d : Int} (h : ¬ (a = c ∧ b = d)) : sameB a b c d = false := by
  cases e : sameB a b c d
  · rfl
  · exact absurd ((sameB_iff _ _ _ _).1 e) h
theorem part_of {op c d : Int} (h : noneS c d = false) (k : Nat) (hs : sameB (partC op c d k) (partD op c d k) 1 0 = false) : okY op c d (partC op c d k) ∧ okY op c d (partD op c d k) := by
  have e := noneS_no h
  have hs' : ¬ (partC op c d k = 1 ∧ partD op c d k = 0) := fun x => by rw [(sameB_iff _ _ _ _).2 x] at hs; cases hs
  unfold okY
  by_cases h3 : op = 3
  · subst h3
    by_cases hk : k = 0
    · subst hk
      have c0 : partC 3 c d 0 = meetL c d (-1152921504606846976) (-1) := rfl
      have d0 : partD 3 c d 0 = meetH c d (-1152921504606846976) (-1) := rfl
      rw [c0, d0] at hs' ⊢
      rcases meet_neg h with m | m <;> omega
    · have c0 : partC 3 c d k = meetL c d 1 1152921504606846976 := by unfold partC; rw [if_pos rfl, if_neg hk]
      have d0 : partD 3 c d k = meetH c d 1 1152921504606846976 := by unfold partD; rw [if_pos rfl, if_neg hk]
      rw [c0, d0] at hs' ⊢
      rcases meet_pos h with m | m <;> omega
  · have c0 : partC op c d k = c := by unfold partC; rw [if_neg h3]
    have d0 : partD op c d k = d := by unfold partD; rw [if_neg h3]
    rw [c0, d0]
    omega
theorem part_has {op c d y : Int} (h : noneS c d = false) (hy : okY op c d y) : ∃ k, k < partN op ∧ sameB (partC op c d k) (partD op c d k) 1 0 = false ∧ (y = partC op c d k ∨ y = partD op c d k) := by
  have e := noneS_no h
  obtain ⟨hy, hz⟩ := hy
  by_cases h3 : op = 3
  · subst h3
    have n2 : partN 3 = 2 := rfl
    by_cases hneg : y < 0
    · refine ⟨0, by rw [n2]; omega, ?_⟩
      have c0 : partC 3 c d 0 = meetL c d (-1152921504606846976) (-1) := rfl
      have d0 : partD 3 c d 0 = meetH c d (-1152921504606846976) (-1) := rfl
      rw [c0, d0]
      rcases meet_neg h with m | m
      · exfalso; omega
      · exact ⟨not_same (by omega), by omega⟩
    · refine ⟨1, by rw [n2]; omega, ?_⟩
      have c0 : partC 3 c d 1 = meetL c d 1 1152921504606846976 := rfl
      have d0 : partD 3 c d 1 = meetH c d 1 1152921504606846976 := rfl
      rw [c0, d0]
      rcases meet_pos h with m | m
      · exfalso; omega
      · exact ⟨not_same (by omega), by omega⟩
  · have c0 : partC op c d 0 = c := by unfold partC; rw [if_neg h3]
    have d0 : partD op c d 0 = d := by unfold partD; rw [if_neg h3]
    refine ⟨0, by unfold partN; rw [if_neg h3]; omega, ?_⟩
    rw [c0, d0]
    exact ⟨not_same (by omega), by omega⟩

theorem mem_corner {op a b c d x : Int} : x ∈ cornerL op a b c d ↔ (sameB c d 1 0 = false ∧ ∃ y, (y = c ∨ y = d) ∧ (x = cut (opR op a y) ∨ x = cut (opR op b y))) := by
  unfold cornerL
  cases h : sameB c d 1 0
  · simp only [Bool.false_eq_true, if_false, true_and]
    constructor
    · intro hx
      simp only [List.mem_cons, List.not_mem_nil, or_false] at hx
      rcases hx with hx | hx | hx | hx
      · exact ⟨c, Or.inl rfl, Or.inl hx⟩
      · exact ⟨d, Or.inr rfl, Or.inl hx⟩
      · exact ⟨c, Or.inl rfl, Or.inr hx⟩
      · exact ⟨d, Or.inr rfl, Or.inr hx⟩
    · rintro ⟨y, rfl | rfl, rfl | rfl⟩ <;> simp
  · simp
theorem mem_prog {op a b c d x : Int} (hc : noneS c d = false) : x ∈ endsL op a b c d ↔ ∃ y, okY op c d y ∧ (x = cut (opR op a y) ∨ x = cut (opR op b y)) := by
  unfold endsL
  rw [mem_ends]
  constructor
  · rintro ⟨k, -, hx⟩
    unfold cornersOf at hx
    obtain ⟨hs, y, hy, hx⟩ := mem_corner.1 hx
    have := part_of hc k hs
    rcases hy with rfl | rfl
    · exact ⟨_, this.1, hx⟩
    · exact ⟨_, this.2, hx⟩
  · rintro ⟨y, hy, hx⟩
    obtain ⟨k, hk, hs, e⟩ := part_has hc hy
    exact ⟨k, hk, mem_corner.2 ⟨hs, y, e, hx⟩⟩

/-- What the document tries of b, in its order, and what comes of it. -/
def ysL (op c d : Int) : List Int := ([c, d] ++ (if (decide (op = 3) && hasS c d 1) = true then [1] else [])) ++ (if (decide (op = 3) && hasS c d (-1)) = true then [-1] else [])
def rC (op a b : Int) (ys : List Int) (k : Nat) : List Int := if op = 3 ∧ ys.getD k 0 = 0 then [] else [oneR op a (ys.getD k 0), oneR op b (ys.getD k 0)]
def rEnds (op a b : Int) (ys : List Int) : List Int := EndsOf (rC op a b ys) ys.length
theorem rC_len (op a b : Int) (ys : List Int) (k : Nat) : (rC op a b ys k).length ≤ 4 := by unfold rC; split <;> simp
theorem ys_len (op c d : Int) : 2 ≤ (ysL op c d).length ∧ (ysL op c d).length ≤ 4 := by
  unfold ysL
  split <;> split <;> simp
theorem mem_ys {op c d y : Int} (hc : noneS c d = false) : (y ∈ ysL op c d ∧ ¬ (op = 3 ∧ y = 0)) ↔ okY op c d y := by
  have h1 := hasS_iff c d 1
  have h2 := hasS_iff c d (-1)
  have i1 : (decide (op = 3) && hasS c d 1) = true ↔ (op = 3 ∧ c ≤ 1 ∧ 1 ≤ d) := by rw [Bool.and_eq_true, decide_eq_true_eq, h1]; simp [hc]
  have i2 : (decide (op = 3) && hasS c d (-1)) = true ↔ (op = 3 ∧ c ≤ -1 ∧ -1 ≤ d) := by rw [Bool.and_eq_true, decide_eq_true_eq, h2]; simp [hc]
  unfold okY
  have : y ∈ ysL op c d ↔ (y = c ∨ y = d ∨ (op = 3 ∧ c ≤ 1 ∧ 1 ≤ d ∧ y = 1) ∨ (op = 3 ∧ c ≤ -1 ∧ -1 ≤ d ∧ y = -1)) := by
    unfold ysL
    by_cases c1 : (decide (op = 3) && hasS c d 1) = true <;> by_cases c2 : (decide (op = 3) && hasS c d (-1)) = true
    · rw [if_pos c1, if_pos c2]; rw [i1] at c1; rw [i2] at c2
      simp only [List.mem_append, List.mem_cons, List.not_mem_nil, or_false]; omega
    · rw [if_pos c1, if_neg c2]; rw [i1] at c1; rw [i2] at c2
      simp only [List.mem_append, List.mem_cons, List.not_mem_nil, or_false]; omega
    · rw [if_neg c1, if_pos c2]; rw [i1] at c1; rw [i2] at c2
      simp only [List.mem_append, List.mem_cons, List.not_mem_nil, or_false]; omega
    · rw [if_neg c1, if_neg c2]; rw [i1] at c1; rw [i2] at c2
      simp only [List.mem_append, List.mem_cons, List.not_mem_nil, or_false]; omega
  rw [this]
theorem mem_doc {op a b c d x : Int} (hc : noneS c d = false) : x ∈ rEnds op a b (ysL op c d) ↔ ∃ y, okY op c d y ∧ (x = oneR op a y ∨ x = oneR op b y) := by
  unfold rEnds
  rw [mem_ends]
  constructor
  · rintro ⟨k, hk, hx⟩
    unfold rC at hx
    by_cases h : op = 3 ∧ (ysL op c d).getD k 0 = 0
    · rw [if_pos h] at hx; cases hx
    · rw [if_neg h] at hx
      simp only [List.mem_cons, List.not_mem_nil, or_false] at hx
      exact ⟨_, (mem_ys hc).1 ⟨getD_in hk, h⟩, hx⟩
  · rintro ⟨y, hy, hx⟩
    obtain ⟨hm, hz⟩ := (mem_ys hc).2 hy
    obtain ⟨k, hk, rfl⟩ := in_getD hm
    refine ⟨k, hk, ?_⟩
    unfold rC
    rw [if_neg hz]
    simpa using hx
theorem okY_bd {op c d y : Int} (hc : noneS c d = false) (hy : okY op c d y) : (-1152921504606846976 ≤ y ∧ y ≤ 1152921504606846976) ∧ (op = 3 → y ≠ 0) := by
  have e := noneS_no hc
  obtain ⟨h, hz⟩ := hy
  omega
theorem okY_may {op a b c d y : Int} (h0 : 0 ≤ op) (h3 : op ≤ 3) (ha : noneS a b = false) (hc : noneS c d = false) (hy : okY op c d y) : may op a y ∧ may op b y := by
  have e := noneS_no ha
  obtain ⟨b1, b2⟩ := okY_bd hc hy
  exact ⟨may_of h0 h3 (by omega) b1 b2, may_of h0 h3 (by omega) b1 b2⟩

/-- The document's span, and its bool, are the program's. -/
theorem rcalc_same {op a b c d : Int} (h0 : 0 ≤ op) (h3 : op ≤ 3) (ha : noneS a b = false) (hc : noneS c d = false) :
    hullL (endsF op a b c d) (endsL op a b c d).length = hullL (fun j => (rEnds op a b (ysL op c d)).getD j 0) (rEnds op a b (ysL op c d)).length ∧
    hullH (endsF op a b c d) (endsL op a b c d).length = hullH (fun j => (rEnds op a b (ysL op c d)).getD j 0) (rEnds op a b (ysL op c d)).length ∧
    wrB (endsF op a b c d) (wrong0 op c d) (endsL op a b c d).length = rwB (rC op a b (ysL op c d)) (wrong0 op c d) (ysL op c d).length := by
  have f1 : ∀ x, x ∈ endsL op a b c d → ∃ y, y ∈ rEnds op a b (ysL op c d) ∧ cut x = cut y ∧ inB x = inB y := by
    intro x hx
    obtain ⟨y, hy, hx⟩ := (mem_prog hc).1 hx
    obtain ⟨m1, m2⟩ := okY_may h0 h3 ha hc hy
    rcases hx with rfl | rfl
    · refine ⟨_, (mem_doc hc).2 ⟨y, hy, Or.inl rfl⟩, ?_, ?_⟩
      · rw [(oneR_cut m1).1]; exact cut_in' _
      · rw [inB_cut, (oneR_cut m1).2]
    · refine ⟨_, (mem_doc hc).2 ⟨y, hy, Or.inr rfl⟩, ?_, ?_⟩
      · rw [(oneR_cut m2).1]; exact cut_in' _
      · rw [inB_cut, (oneR_cut m2).2]
  have f2 : ∀ y, y ∈ rEnds op a b (ysL op c d) → ∃ x, x ∈ endsL op a b c d ∧ cut x = cut y ∧ inB x = inB y := by
    intro x hx
    obtain ⟨y, hy, hx⟩ := (mem_doc hc).1 hx
    obtain ⟨m1, m2⟩ := okY_may h0 h3 ha hc hy
    rcases hx with rfl | rfl
    · refine ⟨_, (mem_prog hc).2 ⟨y, hy, Or.inl rfl⟩, ?_, ?_⟩
      · rw [(oneR_cut m1).1]; exact cut_in' _
      · rw [inB_cut, (oneR_cut m1).2]
    · refine ⟨_, (mem_prog hc).2 ⟨y, hy, Or.inr rfl⟩, ?_, ?_⟩
      · rw [(oneR_cut m2).1]; exact cut_in' _
      · rw [inB_cut, (oneR_cut m2).2]
  have hh := hull_lists (xs := endsL op a b c d) (ys := rEnds op a b (ysL op c d)) (fun x hx => let ⟨y, h1, h2, _⟩ := f1 x hx; ⟨y, h1, h2⟩) (fun x hx => let ⟨y, h1, h2, _⟩ := f2 x hx; ⟨y, h1, h2⟩)
  refine ⟨hh.1, hh.2, ?_⟩
  rw [Bool.eq_iff_iff, wrB_iff, rwB_iff]
  constructor
  · rintro (h | ⟨j, hj, h⟩)
    · exact Or.inl h
    · obtain ⟨y, hy, -, e⟩ := f1 _ (getD_in hj)
      exact Or.inr ⟨y, hy, by rw [← e]; exact h⟩
  · rintro (h | ⟨x, hx, h⟩)
    · exact Or.inl h
    · obtain ⟨y, hy, -, e⟩ := f2 _ hx
      obtain ⟨j, hj, e'⟩ := in_getD hy
      exact Or.inr ⟨j, hj, by show inB ((endsL op a b c d).getD j 0) = false; rw [e', e]; exact h⟩
end Go.Proofs.YtkgdonoilpkiiaaDoor
