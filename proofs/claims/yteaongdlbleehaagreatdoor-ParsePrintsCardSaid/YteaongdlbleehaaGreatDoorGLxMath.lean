/- Put together of: LxMath, LxRune. -/
import Derived.Laws.RangeAny
import Derived.Laws.Runes
/- The lexer layer: what a text's tokens are, told plainly over lists of bytes. -/
namespace Go.Proofs.YteaongdlbleehaaGreatDoor

def letterB (c : UInt8) : Bool := (decide (97 ≤ c.toNat) && decide (c.toNat ≤ 122)) || (decide (65 ≤ c.toNat) && decide (c.toNat ≤ 90))
def digitB (c : UInt8) : Bool := decide (48 ≤ c.toNat) && decide (c.toNat ≤ 57)
def nameB (c : UInt8) : Bool := letterB c || digitB c || c == 95
def blankB (c : UInt8) : Bool := c == 32 || c == 9 || c == 10
def silentB (c : UInt8) : Bool := blankB c || c == 35
/-- Is it a sign of one byte? -/
def oneB (c : UInt8) : Bool := [123, 125, 40, 41, 91, 93, 59, 58, 44, 61, 60, 62, 43, 45, 42, 47, 33].contains c
/-- A sign of two? -/
def twoB (a b : UInt8) : Bool := ((a == 61 || a == 33 || a == 60 || a == 62) && b == 61) || (a == 38 && b == 38) || (a == 124 && b == 124)
def signL : List UInt8 → Bool
  | [a] => oneB a
  | [a, b] => twoB a b
  | _ => false
def twoH (c : UInt8) (r : List UInt8) : Bool := (r.head?.map (twoB c)).getD false
/-- How long the first piece is. -/
def flen : List UInt8 → Nat
  | [] => 0
  | c :: r =>
    if c = 35 then 1 + (r.takeWhile (· != 10)).length
    else if letterB c then 1 + (r.takeWhile nameB).length
    else if digitB c then 1 + (r.takeWhile digitB).length
    else if twoH c r then 2 else 1
/-- The number that digits are, unless it is too great. -/
def valF : Nat → List UInt8 → Option Nat
  | n, [] => some n
  | n, c :: r => if 1152921504606846976 < n * 10 + (c.toNat - 48) then none else valF (n * 10 + (c.toNat - 48)) r
def numL (l : List UInt8) : Option Nat := if 40 < l.length then none else valF 0 l
/-- A token: its kind, its bytes, its number, its place. -/
structure Tok where
  kind : Nat
  text : List UInt8
  n : Nat
  at_ : Nat
/-- What a piece that says something is: a kind and a number, or an error. -/
def tokP : List UInt8 → (Nat × Nat) ⊕ Nat
  | [] => .inr 110
  | c :: r =>
    if letterB c then (if 16 < (c :: r).length then .inr 111 else .inl (0, 0))
    else if digitB c then (match numL (c :: r) with | some v => .inl (1, v) | none => .inr 111)
    else if signL (c :: r) then .inl (2, 0) else .inr 110
abbrev Res := List Tok × Nat × Nat
/-- The tokens from some place on, behind those that there are. -/
def lexF : Nat → List UInt8 → Nat → List Tok → Res
  | 0, _, at_, acc => (acc, at_, 0)
  | _ + 1, [], at_, acc => (acc, at_, 0)
  | f + 1, c :: r, at_, acc =>
    if silentB c then lexF f ((c :: r).drop (flen (c :: r))) (at_ + flen (c :: r)) acc
    else match tokP ((c :: r).take (flen (c :: r))) with
      | .inl (k, v) => lexF f ((c :: r).drop (flen (c :: r))) (at_ + flen (c :: r)) (acc ++ [⟨k, (c :: r).take (flen (c :: r)), v, at_⟩])
      | .inr e => ([], at_, e)
def lexS (l : List UInt8) : Res := if 4096 < l.length then ([], 0, 111) else lexF (l.length + 1) l 0 []

section
variable {c : UInt8} {l r : List UInt8} {p : UInt8 → Bool}
theorem flen_pos (c : UInt8) (r : List UInt8) : 1 ≤ flen (c :: r) := by
  simp only [flen]
  repeat' split
  all_goals omega
theorem twoH_len (h : twoH c r = true) : 1 ≤ r.length := by
  cases r with
  | nil => simp [twoH] at h
  | cons => simp
theorem tw_le (p : UInt8 → Bool) (r : List UInt8) : (r.takeWhile p).length ≤ r.length := by
  induction r with
  | nil => simp
  | cons a r ih => rw [List.takeWhile_cons]; split <;> simp <;> omega
theorem flen_le (c : UInt8) (r : List UInt8) : flen (c :: r) ≤ r.length + 1 := by
  have h1 := tw_le (· != 10) r
  have h2 := tw_le nameB r
  have h3 := tw_le digitB r
  simp only [flen]
  repeat' split
  · omega
  · omega
  · omega
  · have := twoH_len (by assumption); omega
  · omega
/-- What goes on, goes on. -/
theorem tw_on {j : Nat} (h : j ≤ (r.takeWhile p).length) (hj : j < r.length) (hp : p r[j] = true) : j + 1 ≤ (r.takeWhile p).length := by
  induction r generalizing j with
  | nil => simp at hj
  | cons a r ih =>
    cases j with
    | zero => simp at hp; rw [List.takeWhile_cons, hp]; simp
    | succ j =>
      rw [List.takeWhile_cons] at h ⊢
      split at h
      · rename_i ha
        rw [if_pos ha]
        simp at h hp hj ⊢; exact ih h hj hp
      · simp at h
/-- What ends, ends. -/
theorem tw_off {j : Nat} (h : j ≤ (r.takeWhile p).length) (hj : ∀ x : j < r.length, p r[j] = false) : (r.takeWhile p).length = j := by
  induction r generalizing j with
  | nil => simp at h ⊢; omega
  | cons a r ih =>
    cases j with
    | zero => have := hj (by simp); simp at this; rw [List.takeWhile_cons, this]; simp
    | succ j =>
      rw [List.takeWhile_cons] at h ⊢
      split at h
      · rename_i ha
        rw [if_pos ha]
        simp at h ⊢
        exact ih h fun x => by have q := hj (by simpa using x); rw [List.getElem_cons_succ] at q; exact q
      · simp at h
theorem twoB_blank {b : UInt8} (h : silentB c = true) : twoB c b = false := by
  unfold silentB blankB at h
  simp at h
  rcases h with ((rfl | rfl) | rfl) | rfl <;> rfl
theorem digit_letter (h : digitB c = true) : letterB c = false := by
  unfold digitB at h; unfold letterB
  simp at h ⊢
  omega
end
end Go.Proofs.YteaongdlbleehaaGreatDoor

/- The lexer layer: a text read rune by rune, and byte by byte. -/
namespace Go.Proofs.YteaongdlbleehaaGreatDoor

def letterN (r : Nat) : Bool := (decide (97 ≤ r) && decide (r ≤ 122)) || (decide (65 ≤ r) && decide (r ≤ 90))
def digitN (r : Nat) : Bool := decide (48 ≤ r) && decide (r ≤ 57)
/-- Does what has begun go on with a rune? -/
def goesL (b : List UInt8) (r : Nat) : Bool :=
  match b with
  | [] => false
  | h :: t => if h = 35 then decide (r ≠ 10) else if letterB h then (letterN r || digitN r) || decide (r = 95) else if digitB h then digitN r else signL ((h :: t) ++ (Utf8.encode (r : Int)).data.toList)

section
variable {s : ByteArray} {pos : Nat} {c : UInt8} {r : List UInt8}
theorem get_list (s : ByteArray) (i : Nat) (h : i < s.size) : s.data.toList[i]'(by simpa using h) = s[i] := by simp; rfl
theorem getBang (s : ByteArray) (i : Nat) (h : i < s.size) : s.get! i = s[i] := by
  simp [ByteArray.get!, getElem!_pos, h]
  rfl
/-- What stands behind a great rune's first byte. -/
theorem decode_in (s : ByteArray) (pos j : Nat) (h : pos < s.size) (hj : 0 < j) (hw : j < (Utf8.decode s pos).2) : pos + j < s.size ∧ 128 ≤ (s.get! (pos + j)).toNat := by
  have hc : j = 1 ∨ j = 2 ∨ j = 3 ∨ 4 ≤ j := by omega
  revert hw
  simp only [Utf8.decode]
  rcases hc with rfl | rfl | rfl | hc
  all_goals repeat' split
  all_goals intro hw
  all_goals simp_all
  all_goals omega
theorem list_size (b : ByteArray) : b.data.toList.length = b.size := by rw [Array.length_toList]; rfl
theorem encode_two (n : Nat) (h : 128 ≤ n) : 2 ≤ (Utf8.encode (n : Int)).data.toList.length := by
  rw [list_size]
  by_cases hv : Utf8.valid (n : Int) = true
  · exact (encode_facts _ hv (by omega)).1
  · have e : ∀ c : Nat, c = 65533 → 2 ≤ (if c < 128 then (⟨#[UInt8.ofNat c]⟩ : ByteArray) else if c < 2048 then ⟨#[UInt8.ofNat (192 + c / 64), UInt8.ofNat (128 + c % 64)]⟩ else if c < 65536 then ⟨#[UInt8.ofNat (224 + c / 4096), UInt8.ofNat (128 + c / 64 % 64), UInt8.ofNat (128 + c % 64)]⟩ else ⟨#[UInt8.ofNat (240 + c / 262144), UInt8.ofNat (128 + c / 4096 % 64), UInt8.ofNat (128 + c / 64 % 64), UInt8.ofNat (128 + c % 64)]⟩).size := fun c hc => by
      rw [if_neg (by omega), if_neg (by omega), if_pos (by omega)]
      show 2 ≤ 3
      omega
    unfold Utf8.encode
    refine e (if Utf8.valid (n : Int) = true then (n : Int).toNat else Utf8.runeError) ?_
    rw [if_neg hv]
    rfl
theorem signL_three {l : List UInt8} (h : 3 ≤ l.length) : signL l = false := by
  match l, h with
  | a :: b :: c :: r, _ => rfl
theorem encode_low (c : UInt8) (h : c.toNat < 128) : (Utf8.encode ((c.toNat : Nat) : Int)).data.toList = [c] := by
  have hv : Utf8.valid ((c.toNat : Nat) : Int) = true := by unfold Utf8.valid; simp; omega
  unfold Utf8.encode
  simp only [if_pos hv, Int.toNat_natCast]
  rw [if_pos h]
  simp
theorem name_high {c : UInt8} (h : 128 ≤ c.toNat) : nameB c = false ∧ digitB c = false ∧ letterB c = false := by
  unfold nameB digitB letterB
  have e : (c == 95) = false := by
    simp
    rintro rfl
    simp at h
  rw [e]
  refine ⟨?_, ?_, ?_⟩ <;> (simp; omega)
theorem nameN_low (c : UInt8) : ((letterN c.toNat || digitN c.toNat) || decide (c.toNat = 95)) = nameB c := by
  unfold nameB letterN digitN letterB digitB
  congr 1
  rw [Bool.eq_iff_iff]
  simp
  exact ⟨fun h => by have : c.toNat = (95 : UInt8).toNat := h; exact UInt8.toNat_inj.1 this, fun h => by rw [h]; rfl⟩
theorem nameN_high {n : Nat} (h : 128 ≤ n) : ((letterN n || digitN n) || decide (n = 95)) = false ∧ digitN n = false := by
  unfold letterN digitN
  simp
  omega
theorem two_high {a b : UInt8} (h : 128 ≤ b.toNat) : twoB a b = false := by
  unfold twoB
  simp
  refine ⟨⟨fun _ => ?_, fun _ => ?_⟩, fun _ => ?_⟩ <;> (rintro rfl; simp at h)
theorem ne10_low (c : UInt8) : decide (c.toNat ≠ 10) = (c != 10) := by
  rw [Bool.eq_iff_iff]
  simp
  exact ⟨fun h e => h (by rw [e]; rfl), fun h e => h (UInt8.toNat_inj.1 e)⟩
/-- The bytes behind the first one: what the piece goes on with. -/
def onB (c : UInt8) : UInt8 → Bool := if c = 35 then (· != 10) else if letterB c then nameB else digitB
theorem flen_on (h : c = 35 ∨ letterB c = true ∨ digitB c = true) : flen (c :: r) = 1 + (r.takeWhile (onB c)).length := by
  simp only [flen, onB]
  by_cases h1 : c = 35
  · rw [if_pos h1, if_pos h1]
  · rw [if_neg h1, if_neg h1]
    by_cases h2 : letterB c = true
    · rw [if_pos h2, if_pos h2]
    · rw [if_neg h2, if_neg h2, if_pos (by rcases h with h | h | h; exact absurd h h1; exact absurd h h2; exact h)]
theorem flen_sign (h : ¬ (c = 35 ∨ letterB c = true ∨ digitB c = true)) : flen (c :: r) = if twoH c r then 2 else 1 := by
  simp only [flen]
  rw [if_neg (fun e => h (.inl e)), if_neg (fun e => h (.inr (.inl e))), if_neg (fun e => h (.inr (.inr e)))]
theorem goes_on_kind {t : List UInt8} {n : Nat} (h : c = 35 ∨ letterB c = true ∨ digitB c = true) : goesL (c :: t) n = if c = 35 then decide (n ≠ 10) else if letterB c then (letterN n || digitN n) || decide (n = 95) else digitN n := by
  unfold goesL
  by_cases h1 : c = 35
  · simp only [if_pos h1]
  · simp only [if_neg h1]
    by_cases h2 : letterB c = true
    · simp only [if_pos h2]
    · rw [if_neg h2, if_neg h2, if_pos (by rcases h with h | h | h; exact absurd h h1; exact absurd h h2; exact h)]
theorem goes_low {t : List UInt8} {b : UInt8} (h : c = 35 ∨ letterB c = true ∨ digitB c = true) : goesL (c :: t) b.toNat = onB c b := by
  rw [goes_on_kind h]
  unfold onB
  by_cases h1 : c = 35
  · rw [if_pos h1, if_pos h1, ne10_low]
  · rw [if_neg h1, if_neg h1]
    by_cases h2 : letterB c = true
    · rw [if_pos h2, if_pos h2, nameN_low]
    · rw [if_neg h2, if_neg h2]; rfl
theorem goes_high {t : List UInt8} {n : Nat} (h : c = 35 ∨ letterB c = true ∨ digitB c = true) (hn : 128 ≤ n) : goesL (c :: t) n = decide (c = 35) := by
  rw [goes_on_kind h]
  by_cases h1 : c = 35
  · rw [if_pos h1]; simp [h1]; omega
  · rw [if_neg h1]
    obtain ⟨q1, q2⟩ := nameN_high hn
    rw [q1, q2]
    simp [h1]
theorem onB_high {b : UInt8} (hb : 128 ≤ b.toNat) : onB c b = decide (c = 35) := by
  obtain ⟨q1, q2, -⟩ := name_high hb
  unfold onB
  by_cases h1 : c = 35
  · rw [if_pos h1]; simp [h1]; rintro rfl; simp at hb
  · rw [if_neg h1]; split <;> simp [h1, q1, q2]
theorem goes_sign {t : List UInt8} {n : Nat} (h : ¬ (c = 35 ∨ letterB c = true ∨ digitB c = true)) : goesL (c :: t) n = signL ((c :: t) ++ (Utf8.encode (n : Int)).data.toList) := by
  unfold goesL
  simp only
  rw [if_neg (fun e => h (.inl e)), if_neg (fun e => h (.inr (.inl e))), if_neg (fun e => h (.inr (.inr e)))]
/-- One rune more. -/
theorem goes_step (hl : s.data.toList = c :: r) (h1 : 1 ≤ pos) (hp : pos < s.size) (hf : pos ≤ flen (c :: r)) :
    (goesL ((c :: r).take pos) (Utf8.decode s pos).1 = true → pos + (Utf8.decode s pos).2 ≤ flen (c :: r)) ∧ (goesL ((c :: r).take pos) (Utf8.decode s pos).1 = false → flen (c :: r) = pos) := by
  have hsz : s.size = r.length + 1 := by
    have := congrArg List.length hl
    simpa using this
  obtain ⟨q, rfl⟩ : ∃ q, pos = q + 1 := ⟨pos - 1, by omega⟩
  have hq : q < r.length := by omega
  have hb : r[q] = s[q + 1] := by
    have e := get_list s (q + 1) hp
    rw [← e]
    simp [hl]
  rw [List.take_succ_cons]
  by_cases hk : c = 35 ∨ letterB c = true ∨ digitB c = true
  · rw [flen_on hk] at hf ⊢
    by_cases ha : (s[q + 1]).toNat < 128
    · rw [decode_ascii s (q + 1) hp ha, goes_low hk]
      refine ⟨fun h => ?_, fun h => ?_⟩
      · have := tw_on (p := onB c) (r := r) (j := q) (by omega) hq (by rw [hb]; exact h)
        show q + 1 + 1 ≤ _
        omega
      · have := tw_off (p := onB c) (r := r) (j := q) (by omega) (fun _ => by rw [hb]; exact h)
        omega
    · have hh := decode_high s (q + 1) hp (by omega)
      rw [goes_high hk hh.1]
      refine ⟨fun h => ?_, fun h => ?_⟩
      · have all : ∀ k, k ≤ (Utf8.decode s (q + 1)).2 → q + k ≤ (r.takeWhile (onB c)).length := by
          intro k
          induction k with
          | zero => intro _; omega
          | succ k ih =>
            intro hk2
            have i1 := ih (by omega)
            have hx : q + 1 + k < s.size ∧ 128 ≤ (s.get! (q + 1 + k)).toNat := by
              cases k with
              | zero => exact ⟨hp, by rw [getBang s (q + 1 + 0) hp]; show 128 ≤ (s[q + 1]).toNat; omega⟩
              | succ k => exact decode_in s (q + 1) (k + 1) hp (by omega) (by omega)
            have hb2 : r[q + k]'(by omega) = s.get! (q + 1 + k) := by
              rw [getBang s _ hx.1, ← get_list s _ hx.1]
              simp [hl, show q + 1 + k = q + k + 1 by omega]
            have := tw_on (p := onB c) (r := r) (j := q + k) i1 (by omega) (by rw [hb2, onB_high hx.2]; exact h)
            omega
        have := all _ (Nat.le_refl _)
        omega
      · have := tw_off (p := onB c) (r := r) (j := q) (by omega) (fun _ => by rw [hb, onB_high (by omega)]; exact h)
        omega
  · rw [flen_sign hk] at hf ⊢
    rw [goes_sign hk]
    have hen : ∀ n : Nat, 1 ≤ (Utf8.encode (n : Int)).data.toList.length := by
      intro n
      by_cases hn : 128 ≤ n
      · have := encode_two n hn; omega
      · have q := encode_low (UInt8.ofNat n) (by rw [UInt8.toNat_ofNat_of_lt' (show n < 256 by omega)]; omega)
        rw [UInt8.toNat_ofNat_of_lt' (show n < 256 by omega)] at q
        rw [q]
        exact Nat.le_refl 1
    cases q with
    | zero =>
      rw [List.take_zero]
      cases r with
      | nil => simp at hq
      | cons b r =>
        simp at hb
        have e2 : twoH c (b :: r) = twoB c b := rfl
        rw [e2] at hf ⊢
        by_cases ha : (s[0 + 1]).toNat < 128
        · rw [decode_ascii s (0 + 1) hp ha]
          simp only
          rw [encode_low _ ha]
          have e3 : signL ([c] ++ [s[0 + 1]]) = twoB c b := by rw [show ([c] ++ [s[0 + 1]] : List UInt8) = [c, s[0 + 1]] from rfl, hb]; rfl
          rw [e3]
          refine ⟨fun h => ?_, fun h => ?_⟩
          · rw [h]; simp
          · rw [h]; simp
        · have hh := decode_high s (0 + 1) hp (by omega)
          have e3 : signL ([c] ++ (Utf8.encode ((Utf8.decode s (0 + 1)).1 : Int)).data.toList) = false := signL_three (by have := encode_two _ hh.1; simp only [List.length_append, List.length_singleton]; omega)
          rw [e3, hb, two_high (by show 128 ≤ (s[0 + 1]).toNat; omega)]
          exact ⟨fun h => (by cases h), fun _ => (by simp)⟩
    | succ q =>
      have e3 : signL (c :: r.take (q + 1) ++ (Utf8.encode ((Utf8.decode s (q + 1 + 1)).1 : Int)).data.toList) = false := signL_three (by
        have := hen (Utf8.decode s (q + 1 + 1)).1
        simp only [List.length_append, List.length_cons, List.length_take]
        omega)
      rw [e3]
      refine ⟨fun h => (by cases h), fun _ => ?_⟩
      split at hf
      · rename_i h2; rw [if_pos h2]; omega
      · omega
end
end Go.Proofs.YteaongdlbleehaaGreatDoor
