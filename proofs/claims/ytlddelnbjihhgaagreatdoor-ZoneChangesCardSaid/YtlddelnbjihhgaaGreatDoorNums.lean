/- Plain functions on whole numbers: what the bound layer reckons, and what is true of it. Nothing of the program stands here. -/
import Derived.WalkKit
namespace Go.Proofs.YtlddelnbjihhgaaGreatDoor

/-- A whole number of a program. -/
def inB (n : Int) : Bool := decide (-1152921504606846976 ≤ n ∧ n ≤ 1152921504606846976)
theorem inB_yes {n : Int} (h : -1152921504606846976 ≤ n) (h' : n ≤ 1152921504606846976) : inB n = true := decide_eq_true ⟨h, h'⟩
theorem inB_low {n : Int} (h : n < -1152921504606846976) : inB n = false := decide_eq_false (by omega)
theorem inB_high {n : Int} (h : 1152921504606846976 < n) : inB n = false := decide_eq_false (by omega)
theorem of_inB {n : Int} (h : inB n = true) : -1152921504606846976 ≤ n ∧ n ≤ 1152921504606846976 := of_decide_eq_true h
theorem of_not_inB {n : Int} (h : inB n = false) : n < -1152921504606846976 ∨ 1152921504606846976 < n := by
  have := of_decide_eq_false h
  omega

/-- A bound. -/
def rightB (b : Int) : Bool := decide (b = 4611686018427387904 ∨ (-2305843009213693952 ≤ b ∧ b ≤ 2305843009213693952))

/-- The least bound that is not below b. -/
def nearZ (b : Int) : Int := if 2305843009213693952 < b then 4611686018427387904 else if b < -2305843009213693952 then -2305843009213693952 else b
theorem nearZ_cases (b : Int) : (2305843009213693952 < b ∧ nearZ b = 4611686018427387904) ∨ (b < -2305843009213693952 ∧ nearZ b = -2305843009213693952) ∨ (-2305843009213693952 ≤ b ∧ b ≤ 2305843009213693952 ∧ nearZ b = b) := by
  unfold nearZ
  by_cases h : 2305843009213693952 < b
  · rw [if_pos h]; omega
  · rw [if_neg h]
    by_cases h' : b < -2305843009213693952
    · rw [if_pos h']; omega
    · rw [if_neg h']; omega
theorem nearZ_bd (b : Int) : -2305843009213693952 ≤ nearZ b ∧ nearZ b ≤ 4611686018427387904 := by
  rcases nearZ_cases b with h | h | h <;> omega
theorem nearZ_fin {b : Int} (h : ¬ nearZ b = 4611686018427387904) : -2305843009213693952 ≤ nearZ b ∧ nearZ b ≤ 2305843009213693952 := by
  rcases nearZ_cases b with h | h | h <;> omega

/-- The bound of a sum. -/
def addZ (a b : Int) : Int := if nearZ a = 4611686018427387904 ∨ nearZ b = 4611686018427387904 then 4611686018427387904 else nearZ (nearZ a + nearZ b)

def leqB (a b : Int) : Bool := decide (nearZ a ≤ nearZ b)

/-- A number without its sign. -/
def sizeZ (n : Int) : Int := if n < 0 then -n else n

def fitsB (a b : Int) : Bool := decide (a = 0 ∨ sizeZ b ≤ 1152921504606846976 / sizeZ a)


/-- What may be told of a result: itself, or that it is no whole number. -/
def resN (r : Int) : Int := if inB r = true then r else 0
def resE (r : Int) : Int := if inB r = true then 0 else 10
def okOp (op : Int) : Bool := decide (0 ≤ op ∧ op ≤ 3)
def opR (op a b : Int) : Int := if op = 0 then a + b else if op = 1 then a - b else if op = 2 then a * b else a.tdiv b
def calcN (op a b : Int) : Int := if okOp op = true ∧ inB a = true ∧ inB b = true ∧ ¬ (op = 3 ∧ b = 0) then resN (opR op a b) else 0
def calcE (op a b : Int) : Int := if okOp op = true ∧ inB a = true ∧ inB b = true then (if op = 3 ∧ b = 0 then 11 else resE (opR op a b)) else 1

theorem resN_yes {r : Int} (h : inB r = true) : resN r = r := if_pos h
theorem resE_yes {r : Int} (h : inB r = true) : resE r = 0 := if_pos h
theorem resN_no {r : Int} (h : inB r = false) : resN r = 0 := if_neg (by simp [h])
theorem resE_no {r : Int} (h : inB r = false) : resE r = 10 := if_neg (by simp [h])

theorem sizeZ_nonneg (n : Int) : 0 ≤ sizeZ n := by unfold sizeZ; split <;> omega
theorem sizeZ_mul (a b : Int) : sizeZ (a * b) = sizeZ a * sizeZ b := by
  have key : ∀ n : Int, sizeZ n = (n.natAbs : Int) := by intro n; unfold sizeZ; split <;> omega
  rw [key, key, key, Int.natAbs_mul]; simp
theorem inB_size (n : Int) : inB n = decide (sizeZ n ≤ 1152921504606846976) := by
  unfold inB sizeZ
  split <;> (apply decide_eq_decide.2; omega)

/-- Two whole numbers fit just if their product is a whole number. -/
theorem fitsB_mul (a b : Int) : fitsB a b = inB (a * b) := by
  rw [inB_size, sizeZ_mul]
  by_cases h : a = 0
  · subst h
    simp [fitsB, sizeZ]
  · have hs : 0 < sizeZ a := by unfold sizeZ; split <;> omega
    unfold fitsB
    apply decide_eq_decide.2
    constructor
    · rintro (h' | h')
      · exact absurd h' h
      · have := Int.mul_le_mul_of_nonneg_left h' (Int.le_of_lt hs)
        have h2 := Int.mul_ediv_self_le (x := 1152921504606846976) (k := sizeZ a) (by omega)
        omega
    · intro h'
      right
      refine (Int.le_ediv_iff_mul_le hs).2 ?_
      rw [Int.mul_comm]; exact h'

/-- A whole number by another one is a whole number. -/
theorem inB_tdiv {a b : Int} (h : inB a = true) : inB (a.tdiv b) = true := by
  rw [inB_size] at h ⊢
  have key : ∀ n : Int, sizeZ n = (n.natAbs : Int) := by intro n; unfold sizeZ; split <;> omega
  have h := of_decide_eq_true h
  apply decide_eq_true
  rw [key] at h ⊢
  rw [Int.natAbs_tdiv]
  have : a.natAbs.div b.natAbs ≤ a.natAbs := Nat.div_le_self a.natAbs b.natAbs
  omega
end Go.Proofs.YtlddelnbjihhgaaGreatDoor
