/- Put together of: Nums, Spans, HullNums, WidenNums, EndsNums. -/
import Derived.WalkKit
/- Plain functions on whole numbers: what the bound layer reckons, and what is true of it. Nothing of the program stands here. -/
namespace Go.Proofs.YtlkbapcienjdcaaDoor

/-- A whole number of a program. -/
def inB (n : Int) : Bool := decide (-1152921504606846976 ≤ n ∧ n ≤ 1152921504606846976)
theorem inB_yes {n : Int} (h : -1152921504606846976 ≤ n) (h' : n ≤ 1152921504606846976) : inB n = true := decide_eq_true ⟨h, h'⟩
theorem inB_low {n : Int} (h : n < -1152921504606846976) : inB n = false := decide_eq_false (by omega)
theorem inB_high {n : Int} (h : 1152921504606846976 < n) : inB n = false := decide_eq_false (by omega)
theorem of_inB {n : Int} (h : inB n = true) : -1152921504606846976 ≤ n ∧ n ≤ 1152921504606846976 := of_decide_eq_true h
theorem of_not_inB {n : Int} (h : inB n = false) : n < -1152921504606846976 ∨ 1152921504606846976 < n := by
  have := of_decide_eq_false h
  omega

/-- A bound. -/
def rightB (b : Int) : Bool := decide (b = 4611686018427387904 ∨ (-2305843009213693952 ≤ b ∧ b ≤ 2305843009213693952))

/-- The least bound that is not below b. -/
def nearZ (b : Int) : Int := if 2305843009213693952 < b then 4611686018427387904 else if b < -2305843009213693952 then -2305843009213693952 else b
theorem nearZ_cases (b : Int) : (2305843009213693952 < b ∧ nearZ b = 4611686018427387904) ∨ (b < -2305843009213693952 ∧ nearZ b = -2305843009213693952) ∨ (-2305843009213693952 ≤ b ∧ b ≤ 2305843009213693952 ∧ nearZ b = b) := by
  unfold nearZ
  by_cases h : 2305843009213693952 < b
  · rw [if_pos h]; omega
  · rw [if_neg h]
    by_cases h' : b < -2305843009213693952
    · rw [if_pos h']; omega
    · rw [if_neg h']; omega
theorem nearZ_bd (b : Int) : -2305843009213693952 ≤ nearZ b ∧ nearZ b ≤ 4611686018427387904 := by
  rcases nearZ_cases b with h | h | h <;> omega
theorem nearZ_fin {b : Int} (h : ¬ nearZ b = 4611686018427387904) : -2305843009213693952 ≤ nearZ b ∧ nearZ b ≤ 2305843009213693952 := by
  rcases nearZ_cases b with h | h | h <;> omega

/-- The bound of a sum. -/
def addZ (a b : Int) : Int := if nearZ a = 4611686018427387904 ∨ nearZ b = 4611686018427387904 then 4611686018427387904 else nearZ (nearZ a + nearZ b)

def leqB (a b : Int) : Bool := decide (nearZ a ≤ nearZ b)

/-- A number without its sign. -/
def sizeZ (n : Int) : Int := if n < 0 then -n else n

def fitsB (a b : Int) : Bool := decide (a = 0 ∨ sizeZ b ≤ 1152921504606846976 / sizeZ a)


/-- What may be told of a result: itself, or that it is no whole number. -/
def resN (r : Int) : Int := if inB r = true then r else 0
def resE (r : Int) : Int := if inB r = true then 0 else 10
def okOp (op : Int) : Bool := decide (0 ≤ op ∧ op ≤ 3)
def opR (op a b : Int) : Int := if op = 0 then a + b else if op = 1 then a - b else if op = 2 then a * b else a.tdiv b
def calcN (op a b : Int) : Int := if okOp op = true ∧ inB a = true ∧ inB b = true ∧ ¬ (op = 3 ∧ b = 0) then resN (opR op a b) else 0
def calcE (op a b : Int) : Int := if okOp op = true ∧ inB a = true ∧ inB b = true then (if op = 3 ∧ b = 0 then 11 else resE (opR op a b)) else 1

theorem resN_yes {r : Int} (h : inB r = true) : resN r = r := if_pos h
theorem resE_yes {r : Int} (h : inB r = true) : resE r = 0 := if_pos h
theorem resN_no {r : Int} (h : inB r = false) : resN r = 0 := if_neg (by simp [h])
theorem resE_no {r : Int} (h : inB r = false) : resE r = 10 := if_neg (by simp [h])

theorem sizeZ_nonneg (n : Int) : 0 ≤ sizeZ n := by unfold sizeZ; split <;> omega
theorem sizeZ_mul (a b : Int) : sizeZ (a * b) = sizeZ a * sizeZ b := by
  have key : ∀ n : Int, sizeZ n = (n.natAbs : Int) := by intro n; unfold sizeZ; split <;> omega
  rw [key, key, key, Int.natAbs_mul]; simp
theorem inB_size (n : Int) : inB n = decide (sizeZ n ≤ 1152921504606846976) := by
  unfold inB sizeZ
  split <;> (apply decide_eq_decide.2; omega)

/-- Two whole numbers fit just if their product is a whole number. -/
theorem fitsB_mul (a b : Int) : fitsB a b = inB (a * b) := by
  rw [inB_size, sizeZ_mul]
  by_cases h : a = 0
  · subst h
    simp [fitsB, sizeZ]
  · have hs : 0 < sizeZ a := by unfold sizeZ; split <;> omega
    unfold fitsB
    apply decide_eq_decide.2
    constructor
    · rintro (h' | h')
      · exact absurd h' h
      · have := Int.mul_le_mul_of_nonneg_left h' (Int.le_of_lt hs)
        have h2 := Int.mul_ediv_self_le (x := 1152921504606846976) (k := sizeZ a) (by omega)
        omega
    · intro h'
      right
      refine (Int.le_ediv_iff_mul_le hs).2 ?_
      rw [Int.mul_comm]; exact h'

/-- A whole number by another one is a whole number. -/
theorem inB_tdiv {a b : Int} (h : inB a = true) : inB (a.tdiv b) = true := by
  rw [inB_size] at h ⊢
  have key : ∀ n : Int, sizeZ n = (n.natAbs : Int) := by intro n; unfold sizeZ; split <;> omega
  have h := of_decide_eq_true h
  apply decide_eq_true
  rw [key] at h ⊢
  rw [Int.natAbs_tdiv]
  have : a.natAbs.div b.natAbs ≤ a.natAbs := Nat.div_le_self a.natAbs b.natAbs
  omega
end Go.Proofs.YtlkbapcienjdcaaDoor

/- Plain functions on spans: what the span layer reckons, and what is true of it. Nothing of the program stands here. -/
namespace Go.Proofs.YtlkbapcienjdcaaDoor

/-- All whole numbers from l to h, as a right span: its two ends. -/
def ofL (l h : Int) : Int := if max l (-1152921504606846976) ≤ min h 1152921504606846976 then max l (-1152921504606846976) else 1
def ofH (l h : Int) : Int := if max l (-1152921504606846976) ≤ min h 1152921504606846976 then min h 1152921504606846976 else 0
theorem of_cases (l h : Int) : (max l (-1152921504606846976) ≤ min h 1152921504606846976 ∧ ofL l h = max l (-1152921504606846976) ∧ ofH l h = min h 1152921504606846976) ∨ (min h 1152921504606846976 < max l (-1152921504606846976) ∧ ofL l h = 1 ∧ ofH l h = 0) := by
  unfold ofL ofH
  by_cases c : max l (-1152921504606846976) ≤ min h 1152921504606846976
  · rw [if_pos c, if_pos c]; exact Or.inl ⟨c, rfl, rfl⟩
  · rw [if_neg c, if_neg c]; exact Or.inr ⟨by omega, rfl, rfl⟩

/-- Two spans are the same. -/
def sameB (a b c d : Int) : Bool := a == c && b == d
theorem sameB_iff (a b c d : Int) : sameB a b c d = true ↔ (a = c ∧ b = d) := by unfold sameB; rw [Bool.and_eq_true, beq_iff_eq, beq_iff_eq]

/-- A right span. -/
def rightS (l h : Int) : Bool := sameB l h (ofL l h) (ofH l h)
theorem rightS_iff (l h : Int) : rightS l h = true ↔ ((l = 1 ∧ h = 0) ∨ (-1152921504606846976 ≤ l ∧ h ≤ 1152921504606846976 ∧ l ≤ h)) := by
  unfold rightS
  rw [sameB_iff]
  rcases of_cases l h with c | c <;> omega
theorem rightS_of (l h : Int) : rightS (ofL l h) (ofH l h) = true := by
  rw [rightS_iff]
  rcases of_cases l h with c | c <;> omega

/-- As all calls of the layer take a span. -/
def tkL (l h : Int) : Int := if rightS l h = true then l else 1
def tkH (l h : Int) : Int := if rightS l h = true then h else 0
theorem tk_cases (l h : Int) : (rightS l h = true ∧ tkL l h = l ∧ tkH l h = h) ∨ (rightS l h = false ∧ tkL l h = 1 ∧ tkH l h = 0) := by
  unfold tkL tkH
  cases c : rightS l h
  · right; simp
  · left; simp
/-- Either it has nothing, or its ends are whole numbers in order. -/
theorem tk_forms (l h : Int) : (tkL l h = 1 ∧ tkH l h = 0) ∨ (-1152921504606846976 ≤ tkL l h ∧ tkH l h ≤ 1152921504606846976 ∧ tkL l h ≤ tkH l h) := by
  rcases tk_cases l h with ⟨c, e1, e2⟩ | ⟨c, e1, e2⟩
  · rw [rightS_iff] at c; omega
  · omega
theorem tk_bd (l h : Int) : -1152921504606846976 ≤ tkL l h ∧ tkL l h ≤ 1152921504606846976 ∧ -1152921504606846976 ≤ tkH l h ∧ tkH l h ≤ 1152921504606846976 := by
  rcases tk_forms l h with h | h <;> omega
theorem tk_of_right {l h : Int} (c : rightS l h = true) : tkL l h = l ∧ tkH l h = h := by
  rcases tk_cases l h with h | h
  · exact h.2
  · rw [c] at h; cases h.1

/-- It has nothing. -/
def noneS (l h : Int) : Bool := sameB (tkL l h) (tkH l h) 1 0
theorem noneS_iff (l h : Int) : noneS l h = true ↔ (tkL l h = 1 ∧ tkH l h = 0) := by unfold noneS; rw [sameB_iff]
theorem noneS_yes {l h : Int} (c : noneS l h = true) : tkL l h = 1 ∧ tkH l h = 0 := (noneS_iff l h).1 c
theorem noneS_no {l h : Int} (c : noneS l h = false) : -1152921504606846976 ≤ l ∧ h ≤ 1152921504606846976 ∧ l ≤ h ∧ tkL l h = l ∧ tkH l h = h ∧ rightS l h = true := by
  have c : ¬ (tkL l h = 1 ∧ tkH l h = 0) := fun x => by rw [(noneS_iff l h).2 x] at c; cases c
  rcases tk_cases l h with ⟨r, e1, e2⟩ | ⟨r, e1, e2⟩
  · have := (rightS_iff l h).1 r
    rw [e1, e2] at c
    exact ⟨by omega, by omega, by omega, e1, e2, r⟩
  · omega
theorem noneS_def (l h : Int) : noneS l h = (!rightS l h || decide (h < l)) := by
  cases c : noneS l h
  · have := noneS_no c
    rw [this.2.2.2.2.2]
    have e : decide (h < l) = false := decide_eq_false (by omega)
    simp [e]
  · rcases tk_cases l h with ⟨r, e1, e2⟩ | ⟨r, e1, e2⟩
    · have := noneS_yes c
      have e : decide (h < l) = true := decide_eq_true (by omega)
      simp [e]
    · simp [r]

/-- A number is in it. -/
def hasS (l h n : Int) : Bool := rightS l h && (decide (l ≤ n) && decide (n ≤ h))
theorem hasS_iff (l h n : Int) : hasS l h n = true ↔ (noneS l h = false ∧ l ≤ n ∧ n ≤ h) := by
  unfold hasS
  rw [noneS_def]
  cases rightS l h <;> simp
  omega
theorem hasS_ref (l h n : Int) : hasS l h n = (!noneS l h && (decide (l ≤ n) && decide (n ≤ h))) := by
  rw [Bool.eq_iff_iff, hasS_iff]
  cases noneS l h <;> simp
theorem hasS_bd {l h n : Int} (c : hasS l h n = true) : -1152921504606846976 ≤ n ∧ n ≤ 1152921504606846976 ∧ l ≤ n ∧ n ≤ h := by
  obtain ⟨c, h1, h2⟩ := (hasS_iff l h n).1 c
  have := noneS_no c
  omega

/-- What is in both. -/
def meetL (a b c d : Int) : Int := ofL (max (tkL a b) (tkL c d)) (min (tkH a b) (tkH c d))
def meetH (a b c d : Int) : Int := ofH (max (tkL a b) (tkL c d)) (min (tkH a b) (tkH c d))

/-- All of the first is in the second. -/
def leqS (a b c d : Int) : Bool := sameB (meetL a b c d) (meetH a b c d) (tkL a b) (tkH a b)
theorem meet_cases (a b c d : Int) : (max (tkL a b) (tkL c d) ≤ min (tkH a b) (tkH c d) ∧ meetL a b c d = max (tkL a b) (tkL c d) ∧ meetH a b c d = min (tkH a b) (tkH c d)) ∨ (min (tkH a b) (tkH c d) < max (tkL a b) (tkL c d) ∧ meetL a b c d = 1 ∧ meetH a b c d = 0) := by
  have h1 := tk_bd a b
  have h2 := tk_bd c d
  unfold meetL meetH
  rcases of_cases (max (tkL a b) (tkL c d)) (min (tkH a b) (tkH c d)) with h | h <;> omega
theorem leqS_iff (a b c d : Int) : leqS a b c d = true ↔ ((tkL a b = 1 ∧ tkH a b = 0) ∨ (tkL c d ≤ tkL a b ∧ tkH a b ≤ tkH c d ∧ tkL a b ≤ tkH a b)) := by
  unfold leqS
  rw [sameB_iff]
  have h1 := tk_forms a b
  have h2 := tk_forms c d
  rcases meet_cases a b c d with h | h <;> omega

/-- The least span that has all of both. -/
def joinL (a b c d : Int) : Int := if noneS a b = true then tkL c d else if noneS c d = true then tkL a b else min (tkL a b) (tkL c d)
def joinH (a b c d : Int) : Int := if noneS a b = true then tkH c d else if noneS c d = true then tkH a b else max (tkH a b) (tkH c d)
end Go.Proofs.YtlkbapcienjdcaaDoor

/- The least and the greatest of some numbers, and the span that they make. Nothing of the program stands here. -/
namespace Go.Proofs.YtlkbapcienjdcaaDoor

/-- The least, and the greatest, of f 0 to f k. -/
def mnF (f : Nat → Int) : Nat → Int
  | 0 => f 0
  | k + 1 => min (mnF f k) (f (k + 1))
def mxF (f : Nat → Int) : Nat → Int
  | 0 => f 0
  | k + 1 => max (mxF f k) (f (k + 1))
theorem mnF_le (f : Nat → Int) (k j : Nat) (h : j ≤ k) : mnF f k ≤ f j := by
  induction k with
  | zero => obtain rfl : j = 0 := by omega
            exact Int.le_refl _
  | succ k ih =>
    unfold mnF
    by_cases e : j = k + 1
    · subst e; omega
    · have := ih (by omega); omega
theorem le_mxF (f : Nat → Int) (k j : Nat) (h : j ≤ k) : f j ≤ mxF f k := by
  induction k with
  | zero => obtain rfl : j = 0 := by omega
            exact Int.le_refl _
  | succ k ih =>
    unfold mxF
    by_cases e : j = k + 1
    · subst e; omega
    · have := ih (by omega); omega
theorem mnF_in (f : Nat → Int) (k : Nat) : ∃ j, j ≤ k ∧ mnF f k = f j := by
  induction k with
  | zero => exact ⟨0, Nat.le_refl _, rfl⟩
  | succ k ih =>
    obtain ⟨j, hj, e⟩ := ih
    unfold mnF
    by_cases c : mnF f k ≤ f (k + 1)
    · exact ⟨j, by omega, by omega⟩
    · exact ⟨k + 1, by omega, by omega⟩
theorem mxF_in (f : Nat → Int) (k : Nat) : ∃ j, j ≤ k ∧ mxF f k = f j := by
  induction k with
  | zero => exact ⟨0, Nat.le_refl _, rfl⟩
  | succ k ih =>
    obtain ⟨j, hj, e⟩ := ih
    unfold mxF
    by_cases c : f (k + 1) ≤ mxF f k
    · exact ⟨j, by omega, by omega⟩
    · exact ⟨k + 1, by omega, by omega⟩
theorem mnF_congr {f g : Nat → Int} (k : Nat) (h : ∀ j, j ≤ k → f j = g j) : mnF f k = mnF g k := by
  induction k with
  | zero => exact h 0 (Nat.le_refl _)
  | succ k ih => unfold mnF; rw [ih (fun j hj => h j (by omega)), h (k + 1) (Nat.le_refl _)]
theorem mxF_congr {f g : Nat → Int} (k : Nat) (h : ∀ j, j ≤ k → f j = g j) : mxF f k = mxF g k := by
  induction k with
  | zero => exact h 0 (Nat.le_refl _)
  | succ k ih => unfold mxF; rw [ih (fun j hj => h j (by omega)), h (k + 1) (Nat.le_refl _)]

/-- The least span of f 0 to f (n - 1). -/
def hullL (f : Nat → Int) : Nat → Int
  | 0 => 1
  | n + 1 => ofL (mnF f n) (mxF f n)
def hullH (f : Nat → Int) : Nat → Int
  | 0 => 0
  | n + 1 => ofH (mnF f n) (mxF f n)
/-- It hangs on which numbers there are, not on how they stand, nor on how far off one that is no whole number is. -/
def cut (n : Int) : Int := if 1152921504606846976 < n then 1152921504606846977 else if n < -1152921504606846976 then -1152921504606846977 else n
theorem cut_cases (n : Int) : (1152921504606846976 < n ∧ cut n = 1152921504606846977) ∨ (n < -1152921504606846976 ∧ cut n = -1152921504606846977) ∨ (-1152921504606846976 ≤ n ∧ n ≤ 1152921504606846976 ∧ cut n = n) := by
  unfold cut
  by_cases h : 1152921504606846976 < n
  · rw [if_pos h]; omega
  · rw [if_neg h]
    by_cases h' : n < -1152921504606846976
    · rw [if_pos h']; omega
    · rw [if_neg h']; omega
theorem of_cut (l h l' h' : Int) (e1 : cut l = cut l') (e2 : cut h = cut h') : ofL l h = ofL l' h' ∧ ofH l h = ofH l' h' := by
  rcases cut_cases l with a | a | a <;> rcases cut_cases l' with b | b | b <;> rcases cut_cases h with c | c | c <;> rcases cut_cases h' with d | d | d <;>
    (rcases of_cases l h with p | p <;> rcases of_cases l' h' with q | q <;> omega)
theorem cut_mono {a b : Int} (h : a ≤ b) : cut a ≤ cut b := by
  rcases cut_cases a with x | x | x <;> rcases cut_cases b with y | y | y <;> omega
theorem hull_same {f g : Nat → Int} {n m : Nat} (hn : 0 < n) (hm : 0 < m) (h1 : ∀ i, i < n → ∃ j, j < m ∧ cut (f i) = cut (g j)) (h2 : ∀ j, j < m → ∃ i, i < n ∧ cut (f i) = cut (g j)) :
    hullL f n = hullL g m ∧ hullH f n = hullH g m := by
  obtain ⟨k, rfl⟩ : ∃ k, n = k + 1 := ⟨n - 1, by omega⟩
  obtain ⟨l, rfl⟩ : ∃ l, m = l + 1 := ⟨m - 1, by omega⟩
  unfold hullL hullH
  refine of_cut _ _ _ _ ?_ ?_
  · obtain ⟨i, hi, e⟩ := mnF_in f k
    obtain ⟨j, hj, e'⟩ := mnF_in g l
    obtain ⟨j', hj', c1⟩ := h1 i (by omega)
    obtain ⟨i', hi', c2⟩ := h2 j (by omega)
    have a1 := cut_mono (mnF_le g l j' (by omega))
    have a2 := cut_mono (mnF_le f k i' (by omega))
    rw [e] at a2 ⊢
    rw [e'] at a1 ⊢
    omega
  · obtain ⟨i, hi, e⟩ := mxF_in f k
    obtain ⟨j, hj, e'⟩ := mxF_in g l
    obtain ⟨j', hj', c1⟩ := h1 i (by omega)
    obtain ⟨i', hi', c2⟩ := h2 j (by omega)
    have a1 := cut_mono (le_mxF g l j' (by omega))
    have a2 := cut_mono (le_mxF f k i' (by omega))
    rw [e] at a2 ⊢
    rw [e'] at a1 ⊢
    omega
end Go.Proofs.YtlkbapcienjdcaaDoor

/- Widening and narrowing of spans. Nothing of the program stands here. -/
namespace Go.Proofs.YtlkbapcienjdcaaDoor

theorem tk_tk (l h : Int) : tkL (tkL l h) (tkH l h) = tkL l h ∧ tkH (tkL l h) (tkH l h) = tkH l h := by
  refine tk_of_right ?_
  rw [rightS_iff]
  rcases tk_forms l h with h | h <;> omega
theorem leqS_tk (a b c d : Int) : leqS (tkL a b) (tkH a b) (tkL c d) (tkH c d) = leqS a b c d := by
  unfold leqS meetL meetH
  rw [(tk_tk a b).1, (tk_tk a b).2, (tk_tk c d).1, (tk_tk c d).2]
theorem meet_tk (a b c d : Int) : meetL (tkL a b) (tkH a b) (tkL c d) (tkH c d) = meetL a b c d ∧ meetH (tkL a b) (tkH a b) (tkL c d) (tkH c d) = meetH a b c d := by
  unfold meetL meetH
  rw [(tk_tk a b).1, (tk_tk a b).2, (tk_tk c d).1, (tk_tk c d).2]
  exact ⟨rfl, rfl⟩

/-- What is narrowed, ahead of Of. -/
def nloZ (a b c d : Int) : Int := if (tkL a b == -1152921504606846976) = true then tkL c d else tkL a b
def nhiZ (a b c d : Int) : Int := if (tkH a b == 1152921504606846976) = true then tkH c d else tkH a b
def narL (a b c d : Int) : Int := if noneS a b = true ∨ noneS c d = true then 1 else ofL (nloZ a b c d) (nhiZ a b c d)
def narH (a b c d : Int) : Int := if noneS a b = true ∨ noneS c d = true then 0 else ofH (nloZ a b c d) (nhiZ a b c d)

/-- The greatest of the first steps that is not above n, and the least that is not below it. -/
def dnF (f : Nat → Int) (n : Int) : Nat → Int
  | 0 => -1152921504606846976
  | k + 1 => if f k ≤ n then max (dnF f n k) (f k) else dnF f n k
def upF (f : Nat → Int) (n : Int) : Nat → Int
  | 0 => 1152921504606846976
  | k + 1 => if n ≤ f k then min (upF f n k) (f k) else upF f n k
theorem dnF_yes {f : Nat → Int} {n : Int} {k : Nat} (h : f k ≤ n) : dnF f n (k + 1) = max (dnF f n k) (f k) := if_pos h
theorem dnF_no {f : Nat → Int} {n : Int} {k : Nat} (h : ¬ f k ≤ n) : dnF f n (k + 1) = dnF f n k := if_neg h
theorem upF_yes {f : Nat → Int} {n : Int} {k : Nat} (h : n ≤ f k) : upF f n (k + 1) = min (upF f n k) (f k) := if_pos h
theorem upF_no {f : Nat → Int} {n : Int} {k : Nat} (h : ¬ n ≤ f k) : upF f n (k + 1) = upF f n k := if_neg h
theorem dnF_bd (f : Nat → Int) (n : Int) (hn : -1152921504606846976 ≤ n) (k : Nat) : -1152921504606846976 ≤ dnF f n k ∧ dnF f n k ≤ n := by
  induction k with
  | zero => exact ⟨Int.le_refl _, hn⟩
  | succ k ih =>
    by_cases h : f k ≤ n
    · rw [dnF_yes h]; omega
    · rw [dnF_no h]; exact ih
theorem upF_bd (f : Nat → Int) (n : Int) (hn : n ≤ 1152921504606846976) (k : Nat) : n ≤ upF f n k ∧ upF f n k ≤ 1152921504606846976 := by
  induction k with
  | zero => exact ⟨hn, Int.le_refl _⟩
  | succ k ih =>
    by_cases h : n ≤ f k
    · rw [upF_yes h]; omega
    · rw [upF_no h]; exact ih
/-- It is -Max, or one of the steps. -/
theorem dnF_in (f : Nat → Int) (n : Int) (k : Nat) : dnF f n k = -1152921504606846976 ∨ ∃ j, j < k ∧ dnF f n k = f j := by
  induction k with
  | zero => exact Or.inl rfl
  | succ k ih =>
    have back : (dnF f n (k + 1) = dnF f n k) → (dnF f n (k + 1) = -1152921504606846976 ∨ ∃ j, j < k + 1 ∧ dnF f n (k + 1) = f j) := fun e => by
      rcases ih with h | ⟨j, hj, h⟩
      · exact Or.inl (by omega)
      · exact Or.inr ⟨j, by omega, by omega⟩
    by_cases h : f k ≤ n
    · have e := dnF_yes h
      by_cases c : dnF f n k ≤ f k
      · exact Or.inr ⟨k, by omega, by omega⟩
      · exact back (by omega)
    · exact back (dnF_no h)
theorem upF_in (f : Nat → Int) (n : Int) (k : Nat) : upF f n k = 1152921504606846976 ∨ ∃ j, j < k ∧ upF f n k = f j := by
  induction k with
  | zero => exact Or.inl rfl
  | succ k ih =>
    have back : (upF f n (k + 1) = upF f n k) → (upF f n (k + 1) = 1152921504606846976 ∨ ∃ j, j < k + 1 ∧ upF f n (k + 1) = f j) := fun e => by
      rcases ih with h | ⟨j, hj, h⟩
      · exact Or.inl (by omega)
      · exact Or.inr ⟨j, by omega, by omega⟩
    by_cases h : n ≤ f k
    · have e := upF_yes h
      by_cases c : f k ≤ upF f n k
      · exact Or.inr ⟨k, by omega, by omega⟩
      · exact back (by omega)
    · exact back (upF_no h)

/-- What is widened. -/
def wloZ (f : Nat → Int) (m : Nat) (a b c d : Int) : Int := if tkL c d < tkL a b then dnF f (tkL c d) m else tkL a b
def whiZ (f : Nat → Int) (m : Nat) (a b c d : Int) : Int := if tkH a b < tkH c d then upF f (tkH c d) m else tkH a b
def widL (f : Nat → Int) (m : Nat) (a b c d : Int) : Int := if leqS c d a b = true then tkL a b else if noneS a b = true then tkL c d else wloZ f m a b c d
def widH (f : Nat → Int) (m : Nat) (a b c d : Int) : Int := if leqS c d a b = true then tkH a b else if noneS a b = true then tkH c d else whiZ f m a b c d
end Go.Proofs.YtlkbapcienjdcaaDoor

/- How often a span can be widened: each change lowers a number that begins at twice the steps, and three. Nothing of the program stands here. -/
namespace Go.Proofs.YtlkbapcienjdcaaDoor

/-- How many of the first k steps are below l, and -Max with them; how many are above h, and Max with them. -/
def cl (f : Nat → Int) (l : Int) : Nat → Nat
  | 0 => if -1152921504606846976 < l then 1 else 0
  | k + 1 => cl f l k + if f k < l then 1 else 0
def ch (f : Nat → Int) (h : Int) : Nat → Nat
  | 0 => if h < 1152921504606846976 then 1 else 0
  | k + 1 => ch f h k + if h < f k then 1 else 0
theorem cl_le (f : Nat → Int) (l : Int) (k : Nat) : cl f l k ≤ k + 1 := by
  induction k with
  | zero => unfold cl; split <;> omega
  | succ k ih => unfold cl; split <;> omega
theorem ch_le (f : Nat → Int) (h : Int) (k : Nat) : ch f h k ≤ k + 1 := by
  induction k with
  | zero => unfold ch; split <;> omega
  | succ k ih => unfold ch; split <;> omega
theorem cl_mono (f : Nat → Int) {l l' : Int} (h : l' ≤ l) (k : Nat) : cl f l' k ≤ cl f l k := by
  induction k with
  | zero => unfold cl; split <;> split <;> omega
  | succ k ih => unfold cl; split <;> split <;> omega
theorem ch_mono (f : Nat → Int) {h h' : Int} (e : h ≤ h') (k : Nat) : ch f h' k ≤ ch f h k := by
  induction k with
  | zero => unfold ch; split <;> split <;> omega
  | succ k ih => unfold ch; split <;> split <;> omega
theorem cl_less (f : Nat → Int) {l l' : Int} (h : l' < l) (k : Nat) (hin : l' = -1152921504606846976 ∨ ∃ j, j < k ∧ l' = f j) : cl f l' k + 1 ≤ cl f l k := by
  induction k with
  | zero =>
    rcases hin with e | ⟨j, hj, _⟩
    · unfold cl; rw [if_neg (by omega), if_pos (by omega)]; omega
    · omega
  | succ k ih =>
    have m := cl_mono f (Int.le_of_lt h) k
    by_cases e : l' = f k
    · unfold cl; rw [if_neg (by omega), if_pos (by omega)]; omega
    · have i := ih (by
        rcases hin with e' | ⟨j, hj, e'⟩
        · exact Or.inl e'
        · exact Or.inr ⟨j, by rcases Nat.lt_or_ge j k with x | x; exact x; exact absurd (by rw [show k = j by omega]; exact e') e, e'⟩)
      unfold cl; split <;> split <;> omega
theorem ch_less (f : Nat → Int) {h h' : Int} (e : h < h') (k : Nat) (hin : h' = 1152921504606846976 ∨ ∃ j, j < k ∧ h' = f j) : ch f h' k + 1 ≤ ch f h k := by
  induction k with
  | zero =>
    rcases hin with e' | ⟨j, hj, _⟩
    · unfold ch; rw [if_neg (by omega), if_pos (by omega)]; omega
    · omega
  | succ k ih =>
    have m := ch_mono f (Int.le_of_lt e) k
    by_cases e2 : h' = f k
    · unfold ch; rw [if_neg (by omega), if_pos (by omega)]; omega
    · have i := ih (by
        rcases hin with e' | ⟨j, hj, e'⟩
        · exact Or.inl e'
        · exact Or.inr ⟨j, by rcases Nat.lt_or_ge j k with x | x; exact x; exact absurd (by rw [show k = j by omega]; exact e') e2, e'⟩)
      unfold ch; split <;> split <;> omega

/-- What is left to change. -/
def left (f : Nat → Int) (m : Nat) (l h : Int) : Nat := if noneS l h = true then 2 * m + 3 else cl f l m + ch f h m
theorem left_le (f : Nat → Int) (m : Nat) (l h : Int) : left f m l h ≤ 2 * m + 3 := by
  unfold left
  have := cl_le f l m
  have := ch_le f h m
  split <;> omega

/-- Widened, it stays right; it is as it was, or less is left. -/
theorem wid_step (f : Nat → Int) (m : Nat) (l h c d : Int) (hr : rightS l h = true) :
    rightS (widL f m l h c d) (widH f m l h c d) = true ∧ (sameB (widL f m l h c d) (widH f m l h c d) l h = true ∨ left f m (widL f m l h c d) (widH f m l h c d) + 1 ≤ left f m l h) := by
  obtain ⟨e1, e2⟩ := tk_of_right hr
  unfold widL widH
  cases hq : leqS c d l h
  · simp only [Bool.false_eq_true, if_false]
    have hq' : ¬ ((tkL c d = 1 ∧ tkH c d = 0) ∨ (tkL l h ≤ tkL c d ∧ tkH c d ≤ tkH l h ∧ tkL c d ≤ tkH c d)) := fun x => by rw [(leqS_iff c d l h).2 x] at hq; cases hq
    have fc := tk_forms c d
    have cn : noneS (tkL c d) (tkH c d) = false := by
      cases x : noneS (tkL c d) (tkH c d)
      · rfl
      · have := noneS_yes x; rw [(tk_tk c d).1, (tk_tk c d).2] at this; omega
    cases hn : noneS l h
    · have nn := noneS_no hn
      simp only [Bool.false_eq_true, if_false]
      have lo : wloZ f m l h c d ≤ l ∧ -1152921504606846976 ≤ wloZ f m l h c d ∧ (wloZ f m l h c d = l ∨ (wloZ f m l h c d < l ∧ (wloZ f m l h c d = -1152921504606846976 ∨ ∃ j, j < m ∧ wloZ f m l h c d = f j))) := by
        unfold wloZ
        by_cases x : tkL c d < tkL l h
        · rw [if_pos x]
          have b := dnF_bd f (tkL c d) (by omega) m
          exact ⟨by omega, b.1, Or.inr ⟨by omega, dnF_in f (tkL c d) m⟩⟩
        · rw [if_neg x]; exact ⟨by omega, by omega, Or.inl e1⟩
      have hi : h ≤ whiZ f m l h c d ∧ whiZ f m l h c d ≤ 1152921504606846976 ∧ (whiZ f m l h c d = h ∨ (h < whiZ f m l h c d ∧ (whiZ f m l h c d = 1152921504606846976 ∨ ∃ j, j < m ∧ whiZ f m l h c d = f j))) := by
        unfold whiZ
        by_cases x : tkH l h < tkH c d
        · rw [if_pos x]
          have b := upF_bd f (tkH c d) (by omega) m
          exact ⟨by omega, b.2, Or.inr ⟨by omega, upF_in f (tkH c d) m⟩⟩
        · rw [if_neg x]; exact ⟨by omega, by omega, Or.inl e2⟩
      obtain ⟨l1, l2, l3⟩ := lo
      obtain ⟨h1, h2, h3⟩ := hi
      refine ⟨(rightS_iff _ _).2 (Or.inr ⟨l2, h2, by omega⟩), ?_⟩
      have wn : noneS (wloZ f m l h c d) (whiZ f m l h c d) = false := by
        rw [noneS_def, (rightS_iff _ _).2 (Or.inr ⟨l2, h2, by omega⟩), decide_eq_false (show ¬ whiZ f m l h c d < wloZ f m l h c d by omega)]; rfl
      unfold left
      rw [wn, hn]
      simp only [Bool.false_eq_true, if_false]
      have ml := cl_mono f l1 m
      have mh := ch_mono f h1 m
      rcases l3 with x | ⟨x, y⟩
      · rcases h3 with u | ⟨u, v⟩
        · exact Or.inl ((sameB_iff _ _ _ _).2 ⟨x, u⟩)
        · have := ch_less f u m v
          exact Or.inr (by omega)
      · have := cl_less f x m y
        exact Or.inr (by omega)
    · simp only [if_true]
      refine ⟨(rightS_iff _ _).2 (by omega), Or.inr ?_⟩
      unfold left
      rw [cn, hn]
      simp only [Bool.false_eq_true, if_false, if_true]
      have := cl_le f (tkL c d) m
      have := ch_le f (tkH c d) m
      omega
  · simp only [if_true]
    rw [e1, e2]
    exact ⟨hr, Or.inl ((sameB_iff _ _ _ _).2 ⟨rfl, rfl⟩)⟩
end Go.Proofs.YtlkbapcienjdcaaDoor
