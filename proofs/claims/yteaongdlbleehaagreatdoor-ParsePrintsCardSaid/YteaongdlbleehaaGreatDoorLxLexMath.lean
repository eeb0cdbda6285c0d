/- The lexer layer: a piece, and the tokens behind it. -/
import Derived.Test.YteaongdlbleehaaGreatDoorLxToken
namespace Go.Proofs.YteaongdlbleehaaGreatDoor
open Go.RowKit
section
variable {c : UInt8} {r l : List UInt8} {f pos k : Nat} {acc : List Tok}
theorem ba_list {s : ByteArray} {l : List UInt8} (h : s.data.toList = l) : s = ⟨l.toArray⟩ := by subst h; cases s; simp
theorem tok_high (h : 128 ≤ c.toNat) (x : List UInt8) : tokP (c :: x) = .inr 110 := by
  obtain ⟨-, h2, h3⟩ := name_high h
  have h4 : signL (c :: x) = false := by
    match x with
    | [] =>
      show oneB c = false
      cases q : oneB c with
      | false => rfl
      | true =>
        have q' : oneL.contains c = true := q
        rw [List.contains_iff_mem] at q'
        have : ∀ b ∈ oneL, b.toNat < 128 := by decide
        have := this c q'
        omega
    | [b] =>
      show twoB c b = false
      unfold twoB
      simp
      refine ⟨⟨?_, ?_⟩, ?_⟩
      · rintro (((rfl | rfl) | rfl) | rfl) <;> simp at h
      · rintro rfl; simp at h
      · rintro rfl; simp at h
    | a :: b :: x => rfl
  simp only [tokP]
  rw [h3, h2, h4]
  rfl
theorem silent_low (h : silentB c = true) : c.toNat < 128 := by
  unfold silentB blankB at h
  simp at h
  rcases h with ((rfl | rfl) | rfl) | rfl <;> decide
/-- What the first piece of a text is, if it says something. -/
def tokAt (c : UInt8) (r : List UInt8) : (Nat × Nat) ⊕ Nat := tokP ((c :: r).take (flen (c :: r)))
/-- A first piece. -/
structure Piece (p : ByteArray) (c : UInt8) (r : List UInt8) (k : Nat) : Prop where
  h1 : 1 ≤ k
  hk : k ≤ r.length + 1
  hs : p.size = k
  hp : p.data.toList = c :: r.take (k - 1)
  hf : c.toNat < 128 → k = flen (c :: r)
theorem take_flen (c : UInt8) (r : List UInt8) : (c :: r).take (flen (c :: r)) = c :: r.take (flen (c :: r) - 1) := by
  have h := flen_pos c r
  obtain ⟨q, hq⟩ : ∃ q, flen (c :: r) = q + 1 := ⟨flen (c :: r) - 1, by omega⟩
  rw [hq]
  simp
theorem Piece.tok {p : ByteArray} (h : Piece p c r k) : tokP (c :: r.take (k - 1)) = tokAt c r := by
  unfold tokAt
  rw [take_flen]
  by_cases hc : c.toNat < 128
  · rw [h.hf hc]
  · rw [tok_high (by omega), tok_high (by omega)]
theorem tokAt_err {e : Nat} (h : tokAt c r = .inr e) : e = 110 ∨ e = 111 := by
  unfold tokAt at h
  rw [take_flen] at h
  simp only [tokP] at h
  split at h
  · split at h
    · injection h with h; exact .inr h.symm
    · cases h
  · split at h
    · split at h
      · cases h
      · injection h with h; exact .inr h.symm
    · split at h
      · cases h
      · injection h with h; exact .inl h.symm
theorem tokAt_low {x : Nat × Nat} (h : tokAt c r = .inl x) : c.toNat < 128 := by
  by_cases hc : c.toNat < 128
  · exact hc
  · unfold tokAt at h
    rw [take_flen, tok_high (by omega)] at h
    cases h
theorem tokAt_kind {kd v : Nat} (h : tokAt c r = .inl (kd, v)) : kd ≤ 2 ∧ v ≤ 1152921504606846976 := by
  have val : ∀ (l : List UInt8) (n v : Nat), n ≤ 1152921504606846976 → valF n l = some v → v ≤ 1152921504606846976 := by
    intro l
    induction l with
    | nil => intro n v hn h; simp [valF] at h; omega
    | cons a l ih =>
      intro n v hn h
      unfold valF at h
      split at h
      · cases h
      · exact ih _ _ (by omega) h
  unfold tokAt at h
  rw [take_flen] at h
  simp only [tokP] at h
  split at h
  · split at h
    · cases h
    · injection h with h; injection h with h1 h2; omega
  · split at h
    · split at h
      · rename_i w hw
        injection h with h
        injection h with h1 h2
        unfold numL at hw
        split at hw
        · cases hw
        · have := val _ _ _ (by omega) hw
          omega
      · cases h
    · split at h
      · injection h with h; injection h with h1 h2; omega
      · cases h
theorem tw_all (p : UInt8 → Bool) (r : List UInt8) : ∀ b ∈ r.takeWhile p, p b = true := by
  induction r with
  | nil => simp
  | cons a r ih =>
    rw [List.takeWhile_cons]
    split
    · intro b hb
      rcases List.mem_cons.1 hb with e | hb
      · subst e; assumption
      · exact ih b hb
    · simp
theorem take_tw (p : UInt8 → Bool) (r : List UInt8) : r.take (r.takeWhile p).length = r.takeWhile p := by
  induction r with
  | nil => simp
  | cons a r ih =>
    rw [List.takeWhile_cons]
    split
    · simp [ih]
    · simp
/-- All of a number is digits. -/
theorem Piece.digits {p : ByteArray} (h : Piece p c r k) (hd : digitB c = true) : ∀ b ∈ p.data.toList, digitB b = true := by
  have hlow : c.toNat < 128 := by have := digit_bd hd; omega
  have hk := h.hf hlow
  have hon : onB c = digitB := by
    unfold onB
    have h1 : c ≠ 35 := by rintro rfl; simp [digitB] at hd
    rw [if_neg h1, if_neg (by rw [digit_letter hd]; simp)]
  rw [flen_on (.inr (.inr hd)), hon] at hk
  rw [h.hp, hk, show 1 + (r.takeWhile digitB).length - 1 = (r.takeWhile digitB).length by omega, take_tw]
  intro b hb
  rcases List.mem_cons.1 hb with rfl | hb
  · exact hd
  · exact tw_all _ _ b hb
/-- One piece more. -/
theorem lexF_silent {p : ByteArray} (h : Piece p c r k) (hl : l.drop pos = c :: r) (hs : silentB c = true) : lexF (f + 1) (l.drop pos) pos acc = lexF f (l.drop (pos + k)) (pos + k) acc := by
  have hk := h.hf (silent_low hs)
  rw [hl]
  show (if silentB c then _ else _) = _
  rw [if_pos hs, ← hk, ← hl, List.drop_drop]
theorem lexF_tok {p : ByteArray} {kd v : Nat} (h : Piece p c r k) (hl : l.drop pos = c :: r) (hs : silentB c = false) (ht : tokAt c r = .inl (kd, v)) : lexF (f + 1) (l.drop pos) pos acc = lexF f (l.drop (pos + k)) (pos + k) (acc ++ [⟨kd, c :: r.take (k - 1), v, pos⟩]) := by
  have hk := h.hf (tokAt_low ht)
  have e : (c :: r).take (flen (c :: r)) = c :: r.take (k - 1) := by rw [take_flen, ← hk]
  unfold tokAt at ht
  rw [hl]
  show (if silentB c then _ else match tokP ((c :: r).take (flen (c :: r))) with | .inl (k, v) => _ | .inr e => _) = _
  rw [if_neg (by rw [hs]; simp), ht, e]
  simp only
  rw [← hk, ← hl, List.drop_drop]
theorem lexF_err {e : Nat} (hl : l.drop pos = c :: r) (hs : silentB c = false) (ht : tokAt c r = .inr e) : lexF (f + 1) (l.drop pos) pos acc = ([], pos, e) := by
  unfold tokAt at ht
  rw [hl]
  show (if silentB c then _ else match tokP ((c :: r).take (flen (c :: r))) with | .inl (k, v) => _ | .inr e => _) = _
  rw [if_neg (by rw [hs]; simp), ht]
theorem lexF_end (h : l.length ≤ pos) : lexF f (l.drop pos) pos acc = (acc, pos, 0) := by
  rw [List.drop_eq_nil_of_le h]
  cases f <;> rfl
/-- The cells of a row of tokens. -/
def tcells (ts : List Tok) : List Value := ts.flatMap fun t => [.int .i64 t.kind, .string ⟨t.text.toArray⟩, .int .i64 t.n, .int .i64 t.at_]
theorem tcells_len (ts : List Tok) : (tcells ts).length = ts.length * 4 := by
  induction ts with
  | nil => rfl
  | cons t ts ih =>
    have : tcells (t :: ts) = [.int .i64 t.kind, .string ⟨t.text.toArray⟩, .int .i64 t.n, .int .i64 t.at_] ++ tcells ts := rfl
    rw [this, List.length_append, ih, List.length_cons]
    simp; omega
theorem tcells_snoc (ts : List Tok) (t : Tok) : tcells (ts ++ [t]) = tcells ts ++ [.int .i64 t.kind, .string ⟨t.text.toArray⟩, .int .i64 t.n, .int .i64 t.at_] := by simp [tcells]
theorem tcells_at {ts : List Tok} {i : Nat} {t : Tok} (h : ts[i]? = some t) : (tcells ts)[i * 4]? = some (.int .i64 t.kind) ∧ (tcells ts)[i * 4 + 1]? = some (.string ⟨t.text.toArray⟩) ∧ (tcells ts)[i * 4 + 2]? = some (.int .i64 t.n) ∧ (tcells ts)[i * 4 + 3]? = some (.int .i64 t.at_) := by
  induction ts generalizing i with
  | nil => simp at h
  | cons y ts ih =>
    have e : tcells (y :: ts) = .int .i64 y.kind :: .string ⟨y.text.toArray⟩ :: .int .i64 y.n :: .int .i64 y.at_ :: tcells ts := rfl
    rw [e]
    cases i with
    | zero => simp at h; subst h; exact ⟨rfl, rfl, rfl, rfl⟩
    | succ i =>
      rw [show (i + 1) * 4 = i * 4 + 1 + 1 + 1 + 1 by omega]
      simp only [List.getElem?_cons_succ] at h ⊢
      exact ih h
end
end Go.Proofs.YteaongdlbleehaaGreatDoor
