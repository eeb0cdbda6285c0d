/- The lexer layer: where tokens stand; what tokens are joined to. -/
import Derived.Test.YtlkbapcienjdcaaLxReadsWalk
namespace Go.Proofs.Ytlkbapcienjdcaa
section
variable {c : UInt8} {r l : List UInt8} {f pos a b : Nat} {acc : List Tok}
/-- From some place to another there are only pieces that say nothing. -/
inductive Sil (l : List UInt8) : Nat → Nat → Prop
  | nil (a : Nat) : Sil l a a
  | step {a b : Nat} {c : UInt8} {r : List UInt8} : l.drop a = c :: r → silentB c = true → Sil l (a + flen (c :: r)) b → Sil l a b
theorem Sil.snoc (h : Sil l a b) (hl : l.drop b = c :: r) (hs : silentB c = true) : Sil l a (b + flen (c :: r)) := by
  induction h with
  | nil a => exact .step hl hs (.nil _)
  | step h1 h2 _ ih => exact .step h1 h2 (ih hl)
theorem Sil.le (h : Sil l a b) : a ≤ b := by
  induction h with
  | nil a => exact Nat.le_refl _
  | step h1 h2 _ ih => omega
theorem tw_take {p : UInt8 → Bool} {r : List UInt8} {m : Nat} (h : (r.takeWhile p).length ≤ m) : (r.take m).takeWhile p = r.takeWhile p := by
  induction r generalizing m with
  | nil => simp
  | cons x r ih =>
    rw [List.takeWhile_cons] at h ⊢
    split at h
    · rename_i hx
      rw [if_pos hx]
      simp at h
      obtain ⟨m', rfl⟩ : ∃ m', m = m' + 1 := ⟨m - 1, by omega⟩
      rw [List.take_succ_cons, List.takeWhile_cons, if_pos hx, ih (by omega)]
    · rename_i hx
      rw [if_neg hx]
      cases m with
      | zero => simp
      | succ m => rw [List.take_succ_cons, List.takeWhile_cons, if_neg hx]
/-- A piece that says nothing is as long in what is cut out behind it. -/
theorem flen_take {m : Nat} (hs : silentB c = true) (h : flen (c :: r) ≤ m + 1) : flen (c :: r.take m) = flen (c :: r) := by
  by_cases h35 : c = 35
  · rw [flen_on (.inl h35)] at h ⊢
    rw [flen_on (.inl h35), tw_take (by omega)]
  · have hb : blankB c = true := by
      unfold silentB at hs
      simp [h35] at hs
      exact hs
    rw [flen_blank hb, flen_blank hb]
/-- What lies between such places is no token. -/
theorem sil_lex (h : Sil l a b) (hb : b ≤ l.length) (acc : List Tok) : ∀ f p, b < a + f → lexF f ((l.drop a).take (b - a)) p acc = (acc, p + (b - a), 0) := by
  induction h with
  | nil a => intro f p _; rw [Nat.sub_self, List.take_zero]; cases f <;> rfl
  | @step a b c r h1 h2 h3 ih =>
    intro f p hf
    have hle := h3.le
    have hpos := flen_pos c r
    obtain ⟨f, rfl⟩ : ∃ f', f = f' + 1 := ⟨f - 1, by omega⟩
    obtain ⟨m, hm⟩ : ∃ m, b - a = m + 1 := ⟨b - a - 1, by omega⟩
    rw [h1, hm, List.take_succ_cons]
    show (if silentB c then _ else _) = _
    rw [if_pos h2, flen_take h2 (by omega)]
    have hd : (c :: r.take m).drop (flen (c :: r)) = (l.drop (a + flen (c :: r))).take (b - (a + flen (c :: r))) := by
      rw [← List.drop_drop, h1]
      rw [show c :: r.take m = (c :: r).take (m + 1) from rfl, List.drop_take]
      congr 1
      omega
    rw [hd, ih hb f (p + flen (c :: r)) (by omega)]
    congr 2
    omega
theorem sil_lexS (h : Sil l a b) (hb : b ≤ l.length) (h4 : l.length ≤ 4096) : lexS ((l.drop a).take (b - a)) = ([], b - a, 0) := by
  have hle := h.le
  have hlen : ((l.drop a).take (b - a)).length = b - a := by rw [List.length_take, List.length_drop]; omega
  unfold lexS
  rw [hlen, if_neg (by omega), sil_lex h hb [] _ 0 (by omega), Nat.zero_add]
/-- Tokens, each where it says, with nothing that says something between two. -/
def Chain (l : List UInt8) : Nat → List Tok → Prop
  | _, [] => True
  | a, t :: ts => a ≤ t.at_ ∧ t.at_ + t.text.length ≤ l.length ∧ (l.drop t.at_).take t.text.length = t.text ∧ 1 ≤ t.text.length ∧ Sil l a t.at_ ∧ Chain l (t.at_ + t.text.length) ts
theorem chain_lex (f : Nat) : ∀ (pos a : Nat) (acc : List Tok) (ts : List Tok) (n : Nat), Sil l a pos → pos ≤ l.length → lexF f (l.drop pos) pos acc = (ts, n, 0) → ∃ us, ts = acc ++ us ∧ Chain l a us := by
  induction f with
  | zero =>
    intro pos a acc ts n _ _ h
    simp only [lexF, Prod.mk.injEq] at h
    exact ⟨[], by simp [h.1], trivial⟩
  | succ f ih =>
    intro pos a acc ts n hsil hpl h
    cases hcr : l.drop pos with
    | nil =>
      rw [hcr] at h
      simp only [lexF, Prod.mk.injEq] at h
      exact ⟨[], by simp [h.1], trivial⟩
    | cons c r =>
      have hrl : r.length + 1 + pos = l.length := by
        have := congrArg List.length hcr
        rw [List.length_drop] at this
        simp only [List.length_cons] at this
        omega
      have h1 := flen_pos c r
      have h2 := flen_le c r
      rw [hcr] at h
      replace h : (if silentB c then lexF f ((c :: r).drop (flen (c :: r))) (pos + flen (c :: r)) acc else match tokAt c r with | .inl (k, v) => lexF f ((c :: r).drop (flen (c :: r))) (pos + flen (c :: r)) (acc ++ [⟨k, (c :: r).take (flen (c :: r)), v, pos⟩]) | .inr e => ([], pos, e)) = (ts, n, 0) := h
      have hd : (c :: r).drop (flen (c :: r)) = l.drop (pos + flen (c :: r)) := by rw [← hcr, List.drop_drop]
      rw [hd] at h
      cases hs : silentB c
      · rw [if_neg (by rw [hs]; simp)] at h
        cases ht : tokAt c r with
        | inr e =>
          rw [ht] at h
          simp only [Prod.mk.injEq] at h
          rcases tokAt_err ht with rfl | rfl <;> simp at h
        | inl kv =>
          obtain ⟨k, v⟩ := kv
          rw [ht] at h
          simp only at h
          obtain ⟨us, e1, e2⟩ := ih (pos + flen (c :: r)) (pos + flen (c :: r)) _ _ _ (.nil _) (by omega) h
          have hlen : ((c :: r).take (flen (c :: r))).length = flen (c :: r) := by rw [List.length_take, List.length_cons]; omega
          refine ⟨⟨k, (c :: r).take (flen (c :: r)), v, pos⟩ :: us, by rw [e1, List.append_assoc]; rfl, hsil.le, ?_, ?_, ?_, hsil, ?_⟩
          · rw [hlen]; show pos + _ ≤ _; omega
          · rw [hlen]; show (l.drop pos).take _ = _; rw [hcr]
          · rw [hlen]; exact h1
          · rw [hlen]; exact e2
      · rw [if_pos hs] at h
        exact ih _ a _ _ _ (hsil.snoc hcr hs) (by omega) h
theorem lexS_chain {ts : List Tok} {n : Nat} (h : lexS l = (ts, n, 0)) : Chain l 0 ts ∧ l.length ≤ 4096 := by
  unfold lexS at h
  split at h
  · simp at h
  · obtain ⟨us, e1, e2⟩ := chain_lex (l := l) _ 0 0 [] ts n (.nil 0) (Nat.zero_le _) h
    rw [e1, List.nil_append]
    exact ⟨e2, by omega⟩
end
end Go.Proofs.Ytlkbapcienjdcaa
