/- The lexer layer: what a text's tokens are, told plainly over lists of bytes. -/
import Derived.Laws.RangeAny
import Derived.Laws.Runes
namespace Go.Proofs.Ytlkbapcienjdcaa

def letterB (c : UInt8) : Bool := (decide (97 ≤ c.toNat) && decide (c.toNat ≤ 122)) || (decide (65 ≤ c.toNat) && decide (c.toNat ≤ 90))
def digitB (c : UInt8) : Bool := decide (48 ≤ c.toNat) && decide (c.toNat ≤ 57)
def nameB (c : UInt8) : Bool := letterB c || digitB c || c == 95
def blankB (c : UInt8) : Bool := c == 32 || c == 9 || c == 10
def silentB (c : UInt8) : Bool := blankB c || c == 35
/-- Is it a sign of one byte? -/
def oneB (c : UInt8) : Bool := [123, 125, 40, 41, 91, 93, 59, 58, 44, 61, 60, 62, 43, 45, 42, 47, 33].contains c
/-- A sign of two? -/
def twoB (a b : UInt8) : Bool := ((a == 61 || a == 33 || a == 60 || a == 62) && b == 61) || (a == 38 && b == 38) || (a == 124 && b == 124)
def signL : List UInt8 → Bool
  | [a] => oneB a
  | [a, b] => twoB a b
  | _ => false
def twoH (c : UInt8) (r : List UInt8) : Bool := (r.head?.map (twoB c)).getD false
/-- How long the first piece is. -/
def flen : List UInt8 → Nat
  | [] => 0
  | c :: r =>
    if c = 35 then 1 + (r.takeWhile (· != 10)).length
    else if letterB c then 1 + (r.takeWhile nameB).length
    else if digitB c then 1 + (r.takeWhile digitB).length
    else if twoH c r then 2 else 1
/-- The number that digits are, unless it is too great. -/
def valF : Nat → List UInt8 → Option Nat
  | n, [] => some n
  | n, c :: r => if 1152921504606846976 < n * 10 + (c.toNat - 48) then none else valF (n * 10 + (c.toNat - 48)) r
def numL (l : List UInt8) : Option Nat := if 40 < l.length then none else valF 0 l
/-- A token: its kind, its bytes, its number, its place. -/
structure Tok where
  kind : Nat
  text : List UInt8
  n : Nat
  at_ : Nat
/-- What a piece that says something is: a kind and a number, or an error. -/
def tokP : List UInt8 → (Nat × Nat) ⊕ Nat
  | [] => .inr 110
  | c :: r =>
    if letterB c then (if 16 < (c :: r).length then .inr 111 else .inl (0, 0))
    else if digitB c then (match numL (c :: r) with | some v => .inl (1, v) | none => .inr 111)
    else if signL (c :: r) then .inl (2, 0) else .inr 110
abbrev Res := List Tok × Nat × Nat
/-- The tokens from some place on, behind those that there are. -/
def lexF : Nat → List UInt8 → Nat → List Tok → Res
  | 0, _, at_, acc => (acc, at_, 0)
  | _ + 1, [], at_, acc => (acc, at_, 0)
  | f + 1, c :: r, at_, acc =>
    if silentB c then lexF f ((c :: r).drop (flen (c :: r))) (at_ + flen (c :: r)) acc
    else match tokP ((c :: r).take (flen (c :: r))) with
      | .inl (k, v) => lexF f ((c :: r).drop (flen (c :: r))) (at_ + flen (c :: r)) (acc ++ [⟨k, (c :: r).take (flen (c :: r)), v, at_⟩])
      | .inr e => ([], at_, e)
def lexS (l : List UInt8) : Res := if 4096 < l.length then ([], 0, 111) else lexF (l.length + 1) l 0 []

section
variable {c : UInt8} {l r : List UInt8} {p : UInt8 → Bool}
theorem flen_pos (c : UInt8) (r : List UInt8) : 1 ≤ flen (c :: r) := by
  simp only [flen]
  repeat' split
  all_goals omega
theorem twoH_len (h : twoH c r = true) : 1 ≤ r.length := by
  cases r with
  | nil => simp [twoH] at h
  | cons => simp
theorem tw_le (p : UInt8 → Bool) (r : List UInt8) : (r.takeWhile p).length ≤ r.length := by
  induction r with
  | nil => simp
  | cons a r ih => rw [List.takeWhile_cons]; split <;> simp <;> omega
theorem flen_le (c : UInt8) (r : List UInt8) : flen (c :: r) ≤ r.length + 1 := by
  have h1 := tw_le (· != 10) r
  have h2 := tw_le nameB r
  have h3 := tw_le digitB r
  simp only [flen]
  repeat' split
  · omega
  · omega
  · omega
  · have := twoH_len (by assumption); omega
  · omega
/-- What goes on, goes on. -/
theorem tw_on {j : Nat} (h : j ≤ (r.takeWhile p).length) (hj : j < r.length) (hp : p r[j] = true) : j + 1 ≤ (r.takeWhile p).length := by
  induction r generalizing j with
  | nil => simp at hj
  | cons a r ih =>
    cases j with
    | zero => simp at hp; rw [List.takeWhile_cons, hp]; simp
    | succ j =>
      rw [List.takeWhile_cons] at h ⊢
      split at h
      · rename_i ha
        rw [if_pos ha]
        simp at h hp hj ⊢; exact ih h hj hp
      · simp at h
/-- What ends, ends. -/
theorem tw_off {j : Nat} (h : j ≤ (r.takeWhile p).length) (hj : ∀ x : j < r.length, p r[j] = false) : (r.takeWhile p).length = j := by
  induction r generalizing j with
  | nil => simp at h ⊢; omega
  | cons a r ih =>
    cases j with
    | zero => have := hj (by simp); simp at this; rw [List.takeWhile_cons, this]; simp
    | succ j =>
      rw [List.takeWhile_cons] at h ⊢
      split at h
      · rename_i ha
        rw [if_pos ha]
        simp at h ⊢
        exact ih h fun x => by have q := hj (by simpa using x); rw [List.getElem_cons_succ] at q; exact q
      · simp at h
theorem twoB_blank {b : UInt8} (h : silentB c = true) : twoB c b = false := by
  unfold silentB blankB at h
  simp at h
  rcases h with ((rfl | rfl) | rfl) | rfl <;> rfl
theorem digit_letter (h : digitB c = true) : letterB c = false := by
  unfold digitB at h; unfold letterB
  simp at h ⊢
  omega
end
end Go.Proofs.Ytlkbapcienjdcaa
