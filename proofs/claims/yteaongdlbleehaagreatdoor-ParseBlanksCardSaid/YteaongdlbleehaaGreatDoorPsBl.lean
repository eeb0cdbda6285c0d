/- The parse layer: tokens that are written each on a line of its own are lexed as the same. -/
import Derived.Test.YteaongdlbleehaaGreatDoorGPsLx
import Derived.Test.YteaongdlbleehaaGreatDoorLxLexMath
namespace Go.Proofs.YteaongdlbleehaaGreatDoor
section
variable {c : UInt8} {r l R : Bs} {k v f : Nat}
theorem lx_digits (h0 : digitB c = true) (hr : ∀ b ∈ r, digitB b = true) (hn : numL (c :: r) = some v) : LxW (c :: r) [(1, c :: r, v)] := fun R f pos acc hR hl => by
  obtain ⟨k1, k2⟩ := digit_plain h0
  refine lex_tok k1 ?_ ?_ hl
  · rw [List.cons_append]
    simp only [flen]
    rw [if_neg k2, if_neg (by rw [digit_letter h0]; decide), if_pos h0, tw_all' hr (by
      rcases hR with h | ⟨b, q, h, hb⟩
      · exact .inl h
      · refine .inr ⟨b, q, h, ?_⟩
        unfold nameB at hb
        simp only [Bool.or_eq_false_iff] at hb
        exact hb.1.2)]
    omega
  · simp only [tokP]
    rw [if_neg (by rw [digit_letter h0]; decide), if_pos h0, hn]
theorem two_blank (a : UInt8) : twoB a 32 = false := by simp [twoB]
/-- A token, and a blank behind it. -/
theorem tok_lx (hs : silentB c = false) (h : tokP ((c :: r).take (flen (c :: r))) = .inl (k, v)) : LxA ((c :: r).take (flen (c :: r)) ++ [32]) [(k, (c :: r).take (flen (c :: r)), v)] := by
  have hc32 : Hc [32] := hc_lit (by decide) []
  have n35 : c ≠ 35 := by rintro rfl; exact absurd hs (by decide)
  cases hc : letterB c
  · cases hd : digitB c
    · have hfl : flen (c :: r) = if twoH c r then 2 else 1 := by simp only [flen]; rw [if_neg n35, if_neg (by rw [hc]; decide), if_neg (by rw [hd]; decide)]
      rw [hfl] at h ⊢
      cases h2 : twoH c r
      · rw [h2] at h
        have h : tokP [c] = .inl (k, v) := h
        simp only [tokP] at h
        rw [if_neg (by rw [hc]; decide), if_neg (by rw [hd]; decide)] at h
        split at h
        · rename_i h1
          injection h with h
          injection h with q1 q2
          subst q1 q2
          exact lx_one_then h1 ⟨hs, hc, hd⟩ lx_sp ⟨32, [], rfl, two_blank c⟩
        · cases h
      · rw [h2] at h
        cases r with
        | nil => cases h2
        | cons b r =>
          have h : tokP [c, b] = .inl (k, v) := h
          simp only [tokP] at h
          rw [if_neg (by rw [hc]; decide), if_neg (by rw [hd]; decide)] at h
          split at h
          · injection h with h
            injection h with q1 q2
            subst q1 q2
            exact (lx_two (show twoB c b = true from h2) ⟨hs, hc, hd⟩).cat lx_sp
          · cases h
    · have hfl : flen (c :: r) = 1 + (r.takeWhile digitB).length := by simp only [flen]; rw [if_neg n35, if_neg (by rw [hc]; decide), if_pos hd]
      have htk : (c :: r).take (flen (c :: r)) = c :: r.takeWhile digitB := by rw [hfl, Nat.add_comm, List.take_succ_cons, take_tw]
      rw [htk] at h ⊢
      simp only [tokP] at h
      rw [if_neg (by rw [hc]; decide), if_pos hd] at h
      split at h
      · rename_i n hn
        injection h with h
        injection h with q1 q2
        subst q1 q2
        exact (lx_digits hd (fun b hb => tw_all _ _ b hb) hn).cat lx_sp hc32
      · cases h
  · have hfl : flen (c :: r) = 1 + (r.takeWhile nameB).length := by simp only [flen]; rw [if_neg n35, if_pos hc]
    have htk : (c :: r).take (flen (c :: r)) = c :: r.takeWhile nameB := by rw [hfl, Nat.add_comm, List.take_succ_cons, take_tw]
    rw [htk] at h ⊢
    simp only [tokP] at h
    rw [if_pos hc] at h
    split at h
    · cases h
    · rename_i hl
      injection h with h
      injection h with q1 q2
      subst q1 q2
      simp only [List.length_cons] at hl
      exact (lx_word ⟨c, _, rfl, hc, fun b hb => tw_all _ _ b hb, by omega⟩).cat lx_sp hc32
/-- Tokens that are lexed again as they are; each stands behind the one ahead of it. -/
def TokL (l : List Tok) : Prop := ∀ t ∈ l, LxA (t.text ++ [32]) [tk3 t]
def PosL (n : Nat) (l : List Tok) : Prop := (l.map Tok.at_).Pairwise (· < ·) ∧ ∀ t ∈ l, t.at_ < n
theorem lexF_again (f : Nat) : ∀ (l : Bs) (p : Nat) (acc : List Tok), TokL acc → PosL p acc → (lexF f l p acc).2.2 = 0 → TokL (lexF f l p acc).1 ∧ PosL (p + l.length) (lexF f l p acc).1 := by
  induction f with
  | zero => exact fun l p acc h1 h2 _ => ⟨h1, h2.1, fun t ht => Nat.lt_of_lt_of_le (h2.2 t ht) (Nat.le_add_right _ _)⟩
  | succ f ih =>
    intro l p acc h1 h2 hno
    cases l with
    | nil => exact ⟨h1, h2.1, fun t ht => Nat.lt_of_lt_of_le (h2.2 t ht) (Nat.le_add_right _ _)⟩
    | cons c r =>
      have hp := flen_pos c r
      have hle := flen_le c r
      have hlen : p + flen (c :: r) + ((c :: r).drop (flen (c :: r))).length = p + (c :: r).length := by rw [List.length_drop, List.length_cons]; omega
      simp only [lexF] at hno ⊢
      split at hno
      · rename_i hs
        rw [if_pos hs, ← hlen]
        exact ih _ _ _ h1 ⟨h2.1, fun t ht => Nat.lt_of_lt_of_le (h2.2 t ht) (Nat.le_add_right _ _)⟩ hno
      · rename_i hs
        rw [if_neg hs]
        split at hno
        · rename_i k v hk
          rw [← hlen]
          refine ih _ _ _ (fun t ht => ?_) ⟨?_, fun t ht => ?_⟩ hno
          · rcases List.mem_append.1 ht with ht | ht
            · exact h1 t ht
            · rw [List.mem_singleton] at ht; subst ht
              exact tok_lx (by simpa using hs) hk
          · rw [List.map_append, List.pairwise_append]
            refine ⟨h2.1, by simp, fun a ha b hb => ?_⟩
            simp only [List.map_cons, List.map_nil, List.mem_singleton] at hb
            subst hb
            obtain ⟨t, ht, rfl⟩ := List.mem_map.1 ha
            exact h2.2 t ht
          · rcases List.mem_append.1 ht with ht | ht
            · exact Nat.lt_of_lt_of_le (h2.2 t ht) (Nat.le_add_right _ _)
            · rw [List.mem_singleton] at ht; subst ht
              dsimp only; omega
        · exact absurd hno (by rename_i e he; intro q; have := tokAt_err (c := c) (r := r) he; dsimp only at q; omega)
theorem lexS_again {l : Bs} (h : (lexS l).2.2 = 0) : TokL (lexS l).1 ∧ PosL l.length (lexS l).1 := by
  unfold lexS at h ⊢
  split at h
  · cases h
  · rename_i hl
    rw [if_neg hl]
    have := lexF_again (l.length + 1) l 0 [] (fun t ht => by cases ht) ⟨List.Pairwise.nil, fun t ht => by cases ht⟩ h
    rw [Nat.zero_add] at this
    exact this
/-- What stands behind each. -/
def sfx : Bs := [32, 35, 32, 110, 111, 10]
def lineT (l : List Tok) : Bs := l.flatMap fun t => t.text ++ sfx
theorem lx_note : LxA [35, 32, 110, 111, 10] [] := fun R f pos acc hl => by
  simp only [List.cons_append, List.nil_append, List.length_cons] at hl
  obtain ⟨f, rfl⟩ : ∃ q, f = q + 1 := ⟨f - 1, by omega⟩
  have e1 : lexF (f + 1) ([35, 32, 110, 111, 10] ++ R) pos acc = lexF f (10 :: R) (pos + 4) acc := by
    simp only [List.cons_append, List.nil_append, lexF]
    rw [if_pos (by decide)]
    have : flen (35 :: 32 :: 110 :: 111 :: 10 :: R) = 4 := by
      simp only [flen]
      rw [if_pos trivial]
      simp
    rw [this]
    rfl
  rw [e1]
  obtain ⟨f', ts, h1, h2, h3⟩ := lx_nl R f (pos + 4) acc (by simp only [List.cons_append, List.nil_append, List.length_cons]; omega)
  exact ⟨f', ts, h1, h2, h3⟩
theorem flat_one (l : List Tok) : (l.flatMap fun t => [tk3 t]) = l.map tk3 := by
  induction l with
  | nil => rfl
  | cons t l ih => rw [List.flatMap_cons, List.map_cons, ih]; rfl
theorem lines_lx {l : List Tok} (h : TokL l) : LxA (lineT l) (l.map tk3) := by
  have := lx_flat (g := fun t : Tok => t.text ++ sfx) (k := fun t => [tk3 t]) l fun t ht => by
    have := (h t ht).cat lx_note
    rw [List.append_assoc] at this
    exact lx_eq this (by simp)
  exact lx_eq this (flat_one l)
theorem lexF_txt (N f : Nat) : ∀ (l : Bs) (p : Nat) (acc : List Tok), l.length ≤ N → (∀ t ∈ acc, t.text.length ≤ N) → ∀ t ∈ (lexF f l p acc).1, t.text.length ≤ N := by
  induction f with
  | zero => exact fun l p acc _ h => h
  | succ f ih =>
    intro l p acc hl h
    cases l with
    | nil => exact h
    | cons c r =>
      have hd : ((c :: r).drop (flen (c :: r))).length ≤ N := by rw [List.length_drop]; omega
      simp only [lexF]
      split
      · exact ih _ _ _ hd h
      · split
        · refine ih _ _ _ hd fun t ht => ?_
          rcases List.mem_append.1 ht with ht | ht
          · exact h t ht
          · rw [List.mem_singleton] at ht; subst ht
            dsimp only
            rw [List.length_take]; omega
        · exact fun t ht => by cases ht
theorem lexS_txt (l : Bs) : ∀ t ∈ (lexS l).1, t.text.length ≤ 4096 := by
  unfold lexS
  split
  · exact fun t ht => by cases ht
  · exact lexF_txt 4096 _ _ _ _ (by omega) fun t ht => by cases ht
theorem lineT_take {ts : List Tok} {k : Nat} {t : Tok} (h : ts[k]? = some t) : lineT (ts.take (k + 1)) = lineT (ts.take k) ++ (t.text ++ sfx) := by
  unfold lineT
  rw [List.take_add_one, h, List.flatMap_append]
  simp
theorem lineT_len {ts : List Tok} (h : ∀ t ∈ ts, t.text.length ≤ 4096) : (lineT ts).length ≤ ts.length * 4102 := by
  induction ts with
  | nil => exact Nat.zero_le _
  | cons t ts ih =>
    have h1 := h t (List.mem_cons_self ..)
    have h2 := ih fun x hx => h x (List.mem_cons_of_mem _ hx)
    have e : lineT (t :: ts) = (t.text ++ sfx) ++ lineT ts := rfl
    have e6 : sfx.length = 6 := rfl
    rw [e, List.length_append, List.length_append, List.length_cons, e6, Nat.add_mul]
    omega
theorem bA_cat (a b : Bs) : bA a ++ bA b = bA (a ++ b) := by
  apply ByteArray.ext
  simp
end
end Go.Proofs.YteaongdlbleehaaGreatDoor
