/- The lexer layer: what right tokens are joined to is lexed as them. -/
import Derived.Test.YtlkbapcienjdcaaLxRightWalk
namespace Go.Proofs.Ytlkbapcienjdcaa
/-- A token as it comes in: whatever its place is. -/
structure Tk where
  k : Int
  s : ByteArray
  n : Int
  a : Int
section
variable {c : UInt8} {r l R : List UInt8} {f pos : Nat} {acc : List Tok}
/-- A text that is one token, and all of it. -/
def Good (l : List UInt8) (k v : Nat) : Prop := ∃ c r, l = c :: r ∧ silentB c = false ∧ flen (c :: r) = l.length ∧ tokAt c r = .inl (k, v)
theorem good_of {s : ByteArray} {kd n : Int} (h : rightB kd s n = true) : ∃ k v : Nat, kd = (k : Int) ∧ n = (v : Int) ∧ Good s.data.toList k v := by
  unfold rightB at h
  obtain ⟨l, hl⟩ : ∃ l, s.data.toList = l := ⟨_, rfl⟩
  rw [hl] at h ⊢
  cases hres : lexS l with
  | mk ts p =>
    obtain ⟨m, er⟩ := p
    rw [hres] at h
    simp only at h
    cases ts with
    | nil => simp at h
    | cons τ rest =>
      cases rest with
      | cons _ _ => simp at h
      | nil =>
          simp only at h
          have he : er = 0 := by
            by_cases h0 : er = 0
            · exact h0
            · have := lexS_none hres h0; cases this
          subst he
          unfold sameT at h
          simp only [Bool.and_eq_true, beq_iff_eq] at h
          obtain ⟨h1, h2, h3, h4⟩ := h
          rw [ByteArray.toList_eq, ByteArray.toList_eq, hl] at h2
          have h2' : τ.text = l := h2
          have h4' : τ.at_ = 0 := by omega
          refine ⟨τ.kind, τ.n, h1.symm, h3.symm, ?_⟩
          obtain ⟨⟨c1, c2, c3, c4, c5, -⟩, hl4⟩ := lexS_chain hres
          rw [h2'] at c4
          cases l with
          | nil => simp at c4
          | cons c r =>
            have hx : lexF ((c :: r).length + 1) (c :: r) 0 [] = ([τ], m, 0) := by
              have := hres
              unfold lexS at this
              rw [if_neg (by omega)] at this
              exact this
            replace hx : (if silentB c then lexF (c :: r).length ((c :: r).drop (flen (c :: r))) (0 + flen (c :: r)) [] else match tokAt c r with | .inl (k, v) => lexF (c :: r).length ((c :: r).drop (flen (c :: r))) (0 + flen (c :: r)) ([] ++ [⟨k, (c :: r).take (flen (c :: r)), v, 0⟩]) | .inr e => ([], 0, e)) = ([τ], m, 0) := hx
            have f1 := flen_pos c r
            have f2 := flen_le c r
            rw [Nat.zero_add] at hx
            cases hs : silentB c
            · rw [if_neg (by rw [hs]; simp)] at hx
              cases ht : tokAt c r with
              | inr e =>
                rw [ht] at hx
                simp at hx
              | inl kv =>
                obtain ⟨k, v⟩ := kv
                rw [ht] at hx
                simp only [List.nil_append] at hx
                obtain ⟨us, e1, -⟩ := chain_lex (l := c :: r) _ (flen (c :: r)) (flen (c :: r)) _ _ _ (.nil _) (by simp only [List.length_cons]; omega) hx
                have e2 : τ = ⟨k, (c :: r).take (flen (c :: r)), v, 0⟩ := by
                  have := congrArg List.head? e1
                  simpa using this
                have e3 : (c :: r).take (flen (c :: r)) = c :: r := by rw [e2] at h2'; exact h2'
                refine ⟨c, r, rfl, hs, ?_, ?_⟩
                · have := congrArg List.length e3
                  rw [List.length_take, List.length_cons] at this
                  simp only [List.length_cons]
                  omega
                · rw [ht, e2]
            · rw [if_pos hs] at hx
              obtain ⟨us, e1, e2⟩ := chain_lex (l := c :: r) _ (flen (c :: r)) (flen (c :: r)) _ _ _ (.nil _) (by simp only [List.length_cons]; omega) hx
              rw [List.nil_append] at e1
              subst e1
              have := e2.1
              omega
theorem tw_append {p : UInt8 → Bool} (h1 : ∀ b ∈ r, p b = true) (h2 : R = [] ∨ ∃ b T, R = b :: T ∧ p b = false) : (r ++ R).takeWhile p = r := by
  induction r with
  | nil =>
    rcases h2 with rfl | ⟨b, T, rfl, hb⟩
    · rfl
    · simp [hb]
  | cons a r ih =>
    rw [List.cons_append, List.takeWhile_cons, if_pos (h1 a (List.mem_cons_self ..)), ih (fun b hb => h1 b (List.mem_cons_of_mem _ hb))]
theorem tw_full {p : UInt8 → Bool} (h : (r.takeWhile p).length = r.length) : ∀ b ∈ r, p b = true := by
  have e : r.takeWhile p = r := by rw [← take_tw, h, List.take_length]
  intro b hb
  rw [← e] at hb
  exact tw_all _ _ b hb
theorem flen_append (hs : silentB c = false) (hf : flen (c :: r) = r.length + 1) (hR : R = [] ∨ ∃ T, R = 32 :: T) : flen (c :: (r ++ R)) = r.length + 1 := by
  have n35 : c ≠ 35 := by
    rintro rfl
    simp [silentB] at hs
  by_cases hk : c = 35 ∨ letterB c = true ∨ digitB c = true
  · rw [flen_on hk] at hf ⊢
    have h32 : onB c 32 = false := by
      unfold onB
      rw [if_neg n35]
      split <;> rfl
    rw [tw_append (tw_full (by omega)) (by
      rcases hR with rfl | ⟨T, rfl⟩
      · exact .inl rfl
      · exact .inr ⟨32, T, rfl, h32⟩)]
    omega
  · rw [flen_sign hk] at hf ⊢
    have h32 : twoB c 32 = false := by
      unfold twoB
      simp
    match r, hf with
    | [], hf =>
      rcases hR with rfl | ⟨T, rfl⟩
      · rfl
      · have : twoH c ([] ++ 32 :: T) = false := h32
        rw [this]
        rfl
    | [b], hf =>
      have h2 : twoH c [b] = true := by
        cases q : twoH c [b]
        · rw [q] at hf; simp at hf
        · rfl
      have : twoH c ([b] ++ R) = true := h2
      rw [this]
      rfl
    | a :: b :: r, hf =>
      simp only [List.length_cons] at hf
      split at hf <;> omega
theorem lexF_good {k v : Nat} (h : Good l k v) (hR : R = [] ∨ ∃ T, R = 32 :: T) : lexF (f + 1) (l ++ R) pos acc = lexF f R (pos + l.length) (acc ++ [⟨k, l, v, pos⟩]) := by
  obtain ⟨c, r, rfl, hs, hf, ht⟩ := h
  simp only [List.length_cons] at hf
  have hfa := flen_append hs hf hR
  have e1 : (c :: (r ++ R)).take (flen (c :: (r ++ R))) = c :: r := by
    rw [hfa, List.take_succ_cons, List.take_left']
    rfl
  have e2 : (c :: (r ++ R)).drop (flen (c :: (r ++ R))) = R := by
    rw [hfa, List.drop_succ_cons, List.drop_left']
    rfl
  have ht2 : tokP (c :: r) = .inl (k, v) := by
    unfold tokAt at ht
    rw [hf, List.take_of_length_le (by simp)] at ht
    exact ht
  show (if silentB c then (lexF f ((c :: (r ++ R)).drop (flen (c :: (r ++ R)))) (pos + flen (c :: (r ++ R))) acc : Res) else match tokP ((c :: (r ++ R)).take (flen (c :: (r ++ R)))) with | .inl (k, v) => lexF f ((c :: (r ++ R)).drop (flen (c :: (r ++ R)))) (pos + flen (c :: (r ++ R))) (acc ++ [(⟨k, (c :: (r ++ R)).take (flen (c :: (r ++ R))), v, pos⟩ : Tok)]) | .inr e => (([], pos, e) : Res)) = _
  rw [if_neg (by rw [hs]; simp), e1, e2, ht2, hfa]
  rfl
theorem lexF_blank (T : List UInt8) : lexF (f + 1) (32 :: T) pos acc = lexF f T (pos + 1) acc := by
  show (if silentB 32 then lexF f ((32 :: T).drop (flen (32 :: T))) (pos + flen (32 :: T)) acc else _) = _
  rw [if_pos (show silentB 32 = true from rfl), flen_blank rfl]
  rfl
/-- All of some tokens, joined. -/
theorem lexF_join (xs : List Tk) (hg : ∀ x ∈ xs, ∃ k v : Nat, x.k = (k : Int) ∧ x.n = (v : Int) ∧ Good x.s.data.toList k v) : ∀ f pos acc, 2 * xs.length < f → ∃ us n, lexF f (Lib.join (xs.map (·.s.data.toList)) [32]) pos acc = (acc ++ us, n, 0) ∧ us.length = xs.length ∧ ∀ (i : Nat) (u : Tok) (x : Tk), us[i]? = some u → xs[i]? = some x → (u.kind : Int) = x.k ∧ (⟨u.text.toArray⟩ : ByteArray) = x.s ∧ (u.n : Int) = x.n := by
  induction xs with
  | nil =>
    intro f pos acc hf
    refine ⟨[], pos, ?_, rfl, fun i u x h => by simp at h⟩
    obtain ⟨f, rfl⟩ : ∃ f', f = f' + 1 := ⟨f - 1, by omega⟩
    rw [List.append_nil]
    rfl
  | cons x xs ih =>
    intro f pos acc hf
    obtain ⟨k, v, h1, h2, h3⟩ := hg x (List.mem_cons_self ..)
    simp only [List.length_cons] at hf
    obtain ⟨f, rfl⟩ : ∃ f', f = f' + 1 := ⟨f - 1, by omega⟩
    rw [List.map_cons, Lib.join_cons]
    have key : ∀ us : List Tok, us.length = xs.length → (∀ (i : Nat) (u : Tok) (x : Tk), us[i]? = some u → xs[i]? = some x → (u.kind : Int) = x.k ∧ (⟨u.text.toArray⟩ : ByteArray) = x.s ∧ (u.n : Int) = x.n) →
        (((⟨k, x.s.data.toList, v, pos⟩ : Tok) :: us).length = xs.length + 1 ∧ ∀ (i : Nat) (u : Tok) (y : Tk), ((⟨k, x.s.data.toList, v, pos⟩ : Tok) :: us)[i]? = some u → (x :: xs)[i]? = some y → (u.kind : Int) = y.k ∧ (⟨u.text.toArray⟩ : ByteArray) = y.s ∧ (u.n : Int) = y.n) := fun us hl hu => by
      refine ⟨by rw [List.length_cons, hl], fun i u y h4 h5 => ?_⟩
      cases i with
      | zero =>
        simp at h4 h5
        subst h4
        subst h5
        exact ⟨h1.symm, (ba_list rfl).symm, h2.symm⟩
      | succ i =>
        simp at h4 h5
        exact hu i u y h4 h5
    cases xs with
    | nil =>
      rw [show Lib.joinTail [32] (List.map (fun x : Tk => x.s.data.toList) []) = [] from rfl, lexF_good h3 (.inl rfl)]
      refine ⟨[⟨k, x.s.data.toList, v, pos⟩], _, by rw [show lexF f [] (pos + x.s.data.toList.length) (acc ++ [⟨k, x.s.data.toList, v, pos⟩]) = (acc ++ [⟨k, x.s.data.toList, v, pos⟩], pos + x.s.data.toList.length, 0) by cases f <;> rfl], ?_⟩
      exact key [] rfl (fun i u x h => by simp at h)
    | cons y xs =>
      have ej : Lib.joinTail [32] (List.map (fun x : Tk => x.s.data.toList) (y :: xs)) = 32 :: Lib.join ((y :: xs).map (·.s.data.toList)) [32] := by
        rw [List.map_cons, Lib.join_cons]
        simp [Lib.joinTail]
      simp only [List.length_cons] at hf
      obtain ⟨f, rfl⟩ : ∃ f', f = f' + 1 := ⟨f - 1, by omega⟩
      rw [ej, lexF_good h3 (.inr ⟨_, rfl⟩), lexF_blank]
      obtain ⟨us, n, e1, e2, e3⟩ := ih (fun z hz => hg z (List.mem_cons_of_mem _ hz)) f (pos + x.s.data.toList.length + 1) (acc ++ [⟨k, x.s.data.toList, v, pos⟩]) (by simp only [List.length_cons]; omega)
      exact ⟨⟨k, x.s.data.toList, v, pos⟩ :: us, n, by rw [e1, List.append_assoc]; rfl, key us e2 e3⟩
/-- How long they are, at most. -/
def rsum (xs : List Tk) : Nat := (xs.map fun x => x.s.size + 1).sum
theorem join_le (xs : List Tk) : (Lib.join (xs.map (·.s.data.toList)) [32]).length ≤ rsum xs := by
  have tail : ∀ xs : List Tk, (Lib.joinTail [32] (xs.map (·.s.data.toList))).length = rsum xs := by
    intro xs
    induction xs with
    | nil => rfl
    | cons x xs ih =>
      have : Lib.joinTail [32] ((x :: xs).map (·.s.data.toList)) = 32 :: x.s.data.toList ++ Lib.joinTail [32] (xs.map (·.s.data.toList)) := rfl
      rw [this, List.length_append, ih, List.length_cons, list_size]
      simp [rsum]
  cases xs with
  | nil => simp [rsum, Lib.join]
  | cons x xs =>
    rw [List.map_cons, Lib.join_cons, List.length_append, tail, list_size]
    simp [rsum]
theorem len_rsum (xs : List Tk) : xs.length ≤ rsum xs := by
  induction xs with
  | nil => simp
  | cons x xs ih => simp only [rsum, List.map_cons, List.sum_cons, List.length_cons] at ih ⊢; omega
theorem good_len (xs : List Tk) (hg : ∀ x ∈ xs, ∃ k v : Nat, x.k = (k : Int) ∧ x.n = (v : Int) ∧ Good x.s.data.toList k v) : 2 * xs.length ≤ (Lib.join (xs.map (·.s.data.toList)) [32]).length + 1 := by
  have tail : ∀ xs : List Tk, (∀ x ∈ xs, ∃ k v : Nat, x.k = (k : Int) ∧ x.n = (v : Int) ∧ Good x.s.data.toList k v) → 2 * xs.length ≤ (Lib.joinTail [32] (xs.map (·.s.data.toList))).length := by
    intro xs hg
    induction xs with
    | nil => simp
    | cons x xs ih =>
      have e : Lib.joinTail [32] ((x :: xs).map (·.s.data.toList)) = 32 :: x.s.data.toList ++ Lib.joinTail [32] (xs.map (·.s.data.toList)) := rfl
      obtain ⟨k, v, -, -, c, r, h, -⟩ := hg x (List.mem_cons_self ..)
      have := ih (fun z hz => hg z (List.mem_cons_of_mem _ hz))
      rw [e, List.length_append, List.length_cons, h]
      simp only [List.length_cons]
      omega
  cases xs with
  | nil => simp
  | cons x xs =>
    obtain ⟨k, v, -, -, c, r, h, -⟩ := hg x (List.mem_cons_self ..)
    have := tail xs (fun z hz => hg z (List.mem_cons_of_mem _ hz))
    rw [List.map_cons, Lib.join_cons, List.length_append, h]
    simp only [List.length_cons]
    omega
/-- Joined, and lexed again. -/
theorem lexS_join (xs : List Tk) (hg : ∀ x ∈ xs, ∃ k v : Nat, x.k = (k : Int) ∧ x.n = (v : Int) ∧ Good x.s.data.toList k v) (h4 : rsum xs ≤ 4096) : ∃ us n, lexS (Lib.join (xs.map (·.s.data.toList)) [32]) = (us, n, 0) ∧ us.length = xs.length ∧ ∀ (i : Nat) (u : Tok) (x : Tk), us[i]? = some u → xs[i]? = some x → (u.kind : Int) = x.k ∧ (⟨u.text.toArray⟩ : ByteArray) = x.s ∧ (u.n : Int) = x.n := by
  have h1 := join_le xs
  have h2 := good_len xs hg
  by_cases h0 : xs = []
  · subst h0
    exact ⟨[], 0, rfl, rfl, fun i u x h => by simp at h⟩
  · obtain ⟨us, n, e1, e2⟩ := lexF_join xs hg ((Lib.join (xs.map (·.s.data.toList)) [32]).length + 1 + 1) 0 [] (by omega)
    have e3 : ∀ (f : Nat) (l : List UInt8) (pos : Nat) (acc : List Tok), l.length < f → lexF f l pos acc = lexF (f + 1) l pos acc := by
      intro f
      induction f with
      | zero => intro l pos acc h; omega
      | succ f ih =>
        intro l pos acc h
        cases l with
        | nil => rfl
        | cons c r =>
          have hp := flen_pos c r
          have hd : ((c :: r).drop (flen (c :: r))).length < f := by
            rw [List.length_drop, List.length_cons]
            simp only [List.length_cons] at h
            omega
          simp only [lexF]
          split
          · exact ih _ _ _ hd
          · split
            · exact ih _ _ _ hd
            · rfl
    refine ⟨us, n, ?_, e2⟩
    unfold lexS
    rw [if_neg (by omega), e3 _ _ _ _ (by omega), e1, List.nil_append]
end
end Go.Proofs.Ytlkbapcienjdcaa
