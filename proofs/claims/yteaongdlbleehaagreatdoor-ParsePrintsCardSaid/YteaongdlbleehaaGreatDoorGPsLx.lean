/- Put together of: PsLx, PsLxS. -/
import Derived.Test.YteaongdlbleehaaGreatDoorGPsTok
/- The parse layer: what is printed is lexed as its tokens. -/
namespace Go.Proofs.YteaongdlbleehaaGreatDoor
section
variable {T T' R l : Bs} {us us' : List T3} {c : UInt8} {r : Bs} {f pos k v : Nat} {acc : List Tok}
/-- What ends a word. -/
def Hd (R : Bs) : Prop := R = [] ∨ ∃ c q, R = c :: q ∧ nameB c = false
/-- It is lexed as these, whatever follows. -/
def LxA (T : Bs) (us : List T3) : Prop := ∀ R f pos acc, (T ++ R).length < f → ∃ f' ts, R.length < f' ∧ lexF f (T ++ R) pos acc = lexF f' R (pos + T.length) (acc ++ ts) ∧ ts.map tk3 = us
/-- If no word goes on behind it. -/
def LxW (T : Bs) (us : List T3) : Prop := ∀ R f pos acc, Hd R → (T ++ R).length < f → ∃ f' ts, R.length < f' ∧ lexF f (T ++ R) pos acc = lexF f' R (pos + T.length) (acc ++ ts) ∧ ts.map tk3 = us
theorem LxA.w (h : LxA T us) : LxW T us := fun R f pos acc _ hl => h R f pos acc hl
theorem lx_nil : LxA [] [] := fun R f pos acc hl => ⟨f, [], hl, by simp, rfl⟩
theorem cat_gen (h : ∃ f' ts, (T' ++ R).length < f' ∧ lexF f (T ++ (T' ++ R)) pos acc = lexF f' (T' ++ R) (pos + T.length) (acc ++ ts) ∧ ts.map tk3 = us)
    (k : ∀ f' acc', (T' ++ R).length < f' → ∃ f2 ts, R.length < f2 ∧ lexF f' (T' ++ R) (pos + T.length) acc' = lexF f2 R (pos + T.length + T'.length) (acc' ++ ts) ∧ ts.map tk3 = us') :
    ∃ f2 ts, R.length < f2 ∧ lexF f (T ++ T' ++ R) pos acc = lexF f2 R (pos + (T ++ T').length) (acc ++ ts) ∧ ts.map tk3 = us ++ us' := by
  obtain ⟨f1, ts1, h1, h2, h3⟩ := h
  obtain ⟨f2, ts2, k1, k2, k3⟩ := k f1 (acc ++ ts1) h1
  exact ⟨f2, ts1 ++ ts2, k1, by rw [List.append_assoc, h2, k2, List.length_append, Nat.add_assoc, List.append_assoc], by rw [List.map_append, h3, k3]⟩
theorem LxA.cat (h : LxA T us) (k : LxA T' us') : LxA (T ++ T') (us ++ us') := fun R f pos acc hl => by
  rw [List.append_assoc] at hl
  exact cat_gen (h (T' ++ R) f pos acc hl) fun f' acc' h' => k R f' _ acc' h'
theorem LxA.catW (h : LxA T us) (k : LxW T' us') : LxW (T ++ T') (us ++ us') := fun R f pos acc hR hl => by
  rw [List.append_assoc] at hl
  exact cat_gen (h (T' ++ R) f pos acc hl) fun f' acc' h' => k R f' _ acc' hR h'
/-- It begins with what ends a word. -/
def Hc (T : Bs) : Prop := ∃ c q, T = c :: q ∧ nameB c = false
theorem Hc.hd (h : Hc T) : Hd (T ++ R) := by
  obtain ⟨c, q, rfl, hc⟩ := h
  exact .inr ⟨c, q ++ R, rfl, hc⟩
theorem Hc.app (h : Hc T) : Hc (T ++ R) := by
  obtain ⟨c, q, rfl, hc⟩ := h
  exact ⟨c, q ++ R, rfl, hc⟩
theorem LxW.cat (h : LxW T us) (k : LxA T' us') (hc : Hc T') : LxA (T ++ T') (us ++ us') := fun R f pos acc hl => by
  rw [List.append_assoc] at hl
  exact cat_gen (h (T' ++ R) f pos acc hc.hd hl) fun f' acc' h' => k R f' _ acc' h'
theorem LxW.catW (h : LxW T us) (k : LxW T' us') (hc : Hc T') : LxW (T ++ T') (us ++ us') := fun R f pos acc hR hl => by
  rw [List.append_assoc] at hl
  exact cat_gen (h (T' ++ R) f pos acc hc.hd hl) fun f' acc' h' => k R f' _ acc' hR h'
/-! ### One token -/
theorem lex_tok (hs : silentB c = false) (hf : flen (c :: r ++ R) = r.length + 1) (ht : tokP (c :: r) = .inl (k, v)) (hl : (c :: r ++ R).length < f) :
    ∃ f' ts, R.length < f' ∧ lexF f (c :: r ++ R) pos acc = lexF f' R (pos + (c :: r).length) (acc ++ ts) ∧ ts.map tk3 = [(k, c :: r, v)] := by
  simp only [List.cons_append, List.length_cons, List.length_append] at hl
  obtain ⟨f, rfl⟩ : ∃ q, f = q + 1 := ⟨f - 1, by omega⟩
  refine ⟨f, [⟨k, c :: r, v, pos⟩], by omega, ?_, rfl⟩
  rw [List.cons_append] at hf ⊢
  simp only [lexF]
  rw [if_neg (by rw [hs]; decide), hf, List.take_succ_cons, List.drop_succ_cons, List.take_left' rfl, List.drop_left' rfl, ht]
  rfl
theorem tw_all' {p : UInt8 → Bool} (h1 : ∀ b ∈ r, p b = true) (h2 : R = [] ∨ ∃ b q, R = b :: q ∧ p b = false) : (r ++ R).takeWhile p = r := by
  induction r with
  | nil =>
    rcases h2 with rfl | ⟨b, T, rfl, hb⟩
    · rfl
    · simp [hb]
  | cons a r ih => rw [List.cons_append, List.takeWhile_cons, if_pos (h1 a (List.mem_cons_self ..)), ih (fun b hb => h1 b (List.mem_cons_of_mem _ hb))]
theorem letter_plain (h : letterB c = true) : silentB c = false ∧ c ≠ 35 := by
  have : c ≠ 35 := by rintro rfl; revert h; decide
  refine ⟨?_, this⟩
  have h1 : c ≠ 32 := by rintro rfl; revert h; decide
  have h2 : c ≠ 9 := by rintro rfl; revert h; decide
  have h3 : c ≠ 10 := by rintro rfl; revert h; decide
  unfold silentB blankB
  simp [this, h1, h2, h3]
theorem digit_plain (h : digitB c = true) : silentB c = false ∧ c ≠ 35 := by
  have : c ≠ 35 := by rintro rfl; revert h; decide
  refine ⟨?_, this⟩
  have h1 : c ≠ 32 := by rintro rfl; revert h; decide
  have h2 : c ≠ 9 := by rintro rfl; revert h; decide
  have h3 : c ≠ 10 := by rintro rfl; revert h; decide
  unfold silentB blankB
  simp [this, h1, h2, h3]
theorem lx_word (h : WordB l) : LxW l [wd l] := fun R f pos acc hR hl => by
  obtain ⟨c, r, rfl, hc, hr, h15⟩ := h
  obtain ⟨h1, h2⟩ := letter_plain hc
  refine lex_tok h1 ?_ ?_ hl
  · rw [List.cons_append]
    simp only [flen]
    rw [if_neg h2, if_pos hc, tw_all' hr hR]
    omega
  · simp only [tokP]
    rw [if_pos hc, if_neg (by simp only [List.length_cons]; omega)]
theorem lx_num {n : Int} (h0 : 0 ≤ n) (h1 : n ≤ 1152921504606846976) : LxW (Lib.itoa n) [num3 n] := fun R f pos acc hR hl => by
  have hn := numL_itoa n h0 h1
  obtain ⟨c, r, e, hc, hr⟩ := digs_all n h0
  unfold num3
  rw [e] at hn hl ⊢
  obtain ⟨k1, k2⟩ := digit_plain hc
  refine lex_tok k1 ?_ ?_ hl
  · rw [List.cons_append]
    simp only [flen]
    rw [if_neg k2, if_neg (by rw [digit_letter hc]; decide), if_pos hc, tw_all' hr (by
      rcases hR with h | ⟨b, q, h, hb⟩
      · exact .inl h
      · refine .inr ⟨b, q, h, ?_⟩
        unfold nameB at hb
        simp only [Bool.or_eq_false_iff] at hb
        exact hb.1.2)]
    omega
  · simp only [tokP]
    rw [if_neg (by rw [digit_letter hc]; decide), if_pos hc, hn]
/-- A sign of one byte that none of two begins with. -/
theorem lx_one (h1 : oneB c = true) (h2 : silentB c = false ∧ letterB c = false ∧ digitB c = false) (h3 : ∀ b, twoB c b = false) : LxA [c] [sg [c]] := fun R f pos acc hl => by
  have n35 : c ≠ 35 := by rintro rfl; exact absurd h2.1 (by decide)
  refine lex_tok h2.1 ?_ ?_ hl
  · rw [List.cons_append, List.nil_append]
    simp only [flen]
    have : twoH c R = false := by cases R with
      | nil => rfl
      | cons b q => exact h3 b
    rw [if_neg n35, if_neg (by rw [h2.2.1]; decide), if_neg (by rw [h2.2.2]; decide), this]
    rfl
  · simp only [tokP]
    rw [if_neg (by rw [h2.2.1]; decide), if_neg (by rw [h2.2.2]; decide), if_pos (show signL [c] = true from h1)]
/-- A blank. -/
theorem lx_blank (h : blankB c = true) : LxA [c] [] := fun R f pos acc hl => by
  simp only [List.cons_append, List.nil_append, List.length_cons] at hl
  obtain ⟨f, rfl⟩ : ∃ q, f = q + 1 := ⟨f - 1, by omega⟩
  have hs : silentB c = true := by unfold silentB; rw [h]; rfl
  have hfl : flen (c :: R) = 1 := by
    have h2 : c = 32 ∨ c = 9 ∨ c = 10 := by
      unfold blankB at h
      simp at h
      rcases h with (h | h) | h
      · exact .inl h
      · exact .inr (.inl h)
      · exact .inr (.inr h)
    have h3 : twoH c R = false := by cases R with
      | nil => rfl
      | cons b q => exact twoB_blank hs
    simp only [flen]
    rw [h3]
    rcases h2 with rfl | rfl | rfl <;> rfl
  refine ⟨f, [], by omega, ?_, rfl⟩
  rw [List.cons_append, List.nil_append]
  simp only [lexF]
  rw [if_pos hs, hfl, List.append_nil]
  rfl
/-- A sign of one byte, and what no sign goes on with. -/
theorem lx_one_then (h1 : oneB c = true) (h2 : silentB c = false ∧ letterB c = false ∧ digitB c = false) (h : LxA T us) (hT : ∃ b q, T = b :: q ∧ twoB c b = false) : LxA (c :: T) (sg [c] :: us) := fun R f pos acc hl => by
  have n35 : c ≠ 35 := by rintro rfl; exact absurd h2.1 (by decide)
  have := cat_gen (T := [c]) (T' := T) (R := R) (f := f) (pos := pos) (acc := acc) (us := [sg [c]]) (us' := us) (lex_tok (r := []) h2.1 (by
    obtain ⟨b, q, rfl, hb⟩ := hT
    rw [List.cons_append, List.nil_append]
    simp only [flen]
    rw [if_neg n35, if_neg (by rw [h2.2.1]; decide), if_neg (by rw [h2.2.2]; decide), show twoH c (b :: q ++ R) = false from hb]
    rfl) (by
    simp only [tokP]
    rw [if_neg (by rw [h2.2.1]; decide), if_neg (by rw [h2.2.2]; decide), if_pos (show signL [c] = true from h1)]) hl) (fun f' acc' h' => h R f' _ acc' h')
  exact this
theorem lx_one_thenW (h1 : oneB c = true) (h2 : silentB c = false ∧ letterB c = false ∧ digitB c = false) (h : LxW T us) (hT : ∃ b q, T = b :: q ∧ twoB c b = false) : LxW (c :: T) (sg [c] :: us) := fun R f pos acc hR hl => by
  have n35 : c ≠ 35 := by rintro rfl; exact absurd h2.1 (by decide)
  have := cat_gen (T := [c]) (T' := T) (R := R) (f := f) (pos := pos) (acc := acc) (us := [sg [c]]) (us' := us) (lex_tok (r := []) h2.1 (by
    obtain ⟨b, q, rfl, hb⟩ := hT
    rw [List.cons_append, List.nil_append]
    simp only [flen]
    rw [if_neg n35, if_neg (by rw [h2.2.1]; decide), if_neg (by rw [h2.2.2]; decide), show twoH c (b :: q ++ R) = false from hb]
    rfl) (by
    simp only [tokP]
    rw [if_neg (by rw [h2.2.1]; decide), if_neg (by rw [h2.2.2]; decide), if_pos (show signL [c] = true from h1)]) hl) (fun f' acc' h' => h R f' _ acc' hR h')
  exact this
/-- A sign of two bytes. -/
theorem lx_two {a b : UInt8} (h : twoB a b = true) (h2 : silentB a = false ∧ letterB a = false ∧ digitB a = false) : LxA [a, b] [sg [a, b]] := fun R f pos acc hl => by
  have n35 : a ≠ 35 := by rintro rfl; exact absurd h2.1 (by decide)
  refine lex_tok h2.1 ?_ ?_ hl
  · rw [List.cons_append, List.cons_append, List.nil_append]
    simp only [flen]
    rw [if_neg n35, if_neg (by rw [h2.2.1]; decide), if_neg (by rw [h2.2.2]; decide), if_pos (show twoH a (b :: R) = true from h)]
    rfl
  · simp only [tokP]
    rw [if_neg (by rw [h2.2.1]; decide), if_neg (by rw [h2.2.2]; decide), if_pos (show signL [a, b] = true from h)]
theorem lx_sp : LxA [32] [] := lx_blank (by decide)
theorem lx_nl : LxA [10] [] := lx_blank (by decide)
/-- A binary sign, with blanks around it. -/
theorem lx_op {o : Bs} (h : o ∈ twos ∨ o = [61]) : LxA ([32] ++ o ++ [32]) [sg o] := by
  have k1 : ∀ c : UInt8, oneB c = true → (silentB c = false ∧ letterB c = false ∧ digitB c = false) → twoB c 32 = false → LxA ([32] ++ [c] ++ [32]) [sg [c]] := fun c h1 h2 h3 =>
    lx_sp.cat (lx_one_then h1 h2 lx_sp ⟨32, [], rfl, h3⟩)
  have k2 : ∀ a b : UInt8, twoB a b = true → (silentB a = false ∧ letterB a = false ∧ digitB a = false) → LxA ([32] ++ [a, b] ++ [32]) [sg [a, b]] := fun a b h1 h2 =>
    (lx_sp.cat (lx_two h1 h2)).cat lx_sp
  rcases h with h | rfl
  · rcases twos_cases h with rfl | rfl | rfl | rfl | rfl | rfl | rfl | rfl | rfl | rfl | rfl | rfl
    · exact k1 _ (by decide) (by decide) (by decide)
    · exact k1 _ (by decide) (by decide) (by decide)
    · exact k1 _ (by decide) (by decide) (by decide)
    · exact k1 _ (by decide) (by decide) (by decide)
    · exact k2 _ _ (by decide) (by decide)
    · exact k2 _ _ (by decide) (by decide)
    · exact k1 _ (by decide) (by decide) (by decide)
    · exact k2 _ _ (by decide) (by decide)
    · exact k1 _ (by decide) (by decide) (by decide)
    · exact k2 _ _ (by decide) (by decide)
    · exact k2 _ _ (by decide) (by decide)
    · exact k2 _ _ (by decide) (by decide)
  · exact k1 _ (by decide) (by decide) (by decide)
/-- The signs that stand alone. -/
theorem lx_s (h : c ∈ ([123, 125, 40, 41, 91, 93, 59, 58, 44, 45] : Bs)) : LxA [c] [sg [c]] := by
  simp only [List.mem_cons, List.not_mem_nil, or_false] at h
  rcases h with rfl | rfl | rfl | rfl | rfl | rfl | rfl | rfl | rfl | rfl <;> exact lx_one (by decide) (by decide) (fun b => by simp [twoB])
theorem lx_eq {us2 : List T3} (h : LxA T us) (e : us = us2) : LxA T us2 := e ▸ h
theorem lxW_eq {us2 : List T3} (h : LxW T us) (e : us = us2) : LxW T us2 := e ▸ h
end
/-! ### Expressions -/
section
variable {n a : Int} {nm o : Bs} {x y e : Ex}
theorem te_num : textE Lib.itoa (.mk (bA oNum) ⟨#[]⟩ n [] a) = Lib.itoa n := by
  simp only [textE, form, bA_l]; rfl
theorem te_name : textE Lib.itoa (.mk (bA oName) (bA nm) 0 [] a) = nm := by
  simp only [textE, form, bA_l]; rfl
theorem te_at : textE Lib.itoa (.mk (bA oAt) (bA nm) 0 [x] a) = nm ++ [91] ++ textE Lib.itoa x ++ [93] := by
  simp only [textE, form, bA_l, textL]; rfl
theorem te_const (h : o = oTrue ∨ o = oFalse) : textE Lib.itoa (.mk (bA o) ⟨#[]⟩ 0 [] a) = o := by
  rcases h with rfl | rfl <;> (simp only [textE, form, bA_l, ofTwoO]; rfl)
def teC (e : Ex) : Bs := clo (textE Lib.itoa e, opensO e.op)
theorem te_neg : textE Lib.itoa (.mk (bA oNeg) ⟨#[]⟩ 0 [x] a) = [45] ++ teC x := by
  simp only [textE, form, bA_l, textL]; rfl
theorem te_not : textE Lib.itoa (.mk (bA oNot) ⟨#[]⟩ 0 [x] a) = 33 :: teC x := by
  simp only [textE, form, bA_l, textL]; rfl
theorem te_two (h : o ∈ twos) : textE Lib.itoa (.mk (bA o) ⟨#[]⟩ 0 [x, y] a) = teC x ++ ([32] ++ o ++ [32]) ++ teC y := by
  rcases twos_cases h with rfl | rfl | rfl | rfl | rfl | rfl | rfl | rfl | rfl | rfl | rfl | rfl <;> (simp only [textE, form, bA_l, textL, ofTwoO]; simp [teC, clos, opensO, oNum, oName, oAt, oNeg, oNot, twos])
theorem hc_lit {c : UInt8} (h : nameB c = false) (q : Bs) : Hc (c :: q) := ⟨c, q, rfl, h⟩
theorem lx_clo (h : LxW (textE Lib.itoa e) (tkE e)) (hh : opensO e.op = false → ∃ b q, textE Lib.itoa e = b :: q ∧ twoB 33 b = false) : LxW (teC e) (tkC e) ∧ ∃ b q, teC e = b :: q ∧ twoB 33 b = false := by
  unfold teC tkC clo cloT
  cases ho : opensO e.op
  · exact ⟨h, hh ho⟩
  · refine ⟨?_, 40, _, rfl, by decide⟩
    have := ((lx_s (c := 40) (by decide)).catW h).cat (lx_s (c := 41) (by decide)) (hc_lit (by decide) [])
    exact this.w
theorem head_letter {c : UInt8} (h : letterB c = true ∨ digitB c = true) : twoB 33 c = false := by
  have : c ≠ 61 := by rintro rfl; revert h; decide
  simp [twoB, this]
theorem lx_ex (h : OkE e) : LxW (textE Lib.itoa e) (tkE e) ∧ LxW (teC e) (tkC e) ∧ ∃ b q, teC e = b :: q ∧ twoB 33 b = false := by
  have word_head : ∀ l, WordB l → ∃ b q, l = b :: q ∧ twoB 33 b = false := fun l ⟨c, r, e, hc, _⟩ => ⟨c, r, e, head_letter (.inl hc)⟩
  induction h with
  | @num n p h0 h1 =>
    have hA : LxW (textE Lib.itoa (.mk (bA oNum) ⟨#[]⟩ n [] p)) (tkE (.mk (bA oNum) ⟨#[]⟩ n [] p)) := by rw [te_num, tk_num]; exact lx_num h0 h1
    refine ⟨hA, lx_clo hA fun _ => ?_⟩
    rw [te_num]
    obtain ⟨c, r, e, hc, -⟩ := digs_all n h0
    exact ⟨c, r, e, head_letter (.inr hc)⟩
  | @name nm p h =>
    have hA : LxW (textE Lib.itoa (.mk (bA oName) (bA nm) 0 [] p)) (tkE (.mk (bA oName) (bA nm) 0 [] p)) := by rw [te_name, tk_name]; exact lx_word h.1
    refine ⟨hA, lx_clo hA fun _ => ?_⟩
    rw [te_name]
    exact word_head _ h.1
  | @at_ nm x p h hx ih =>
    have hA : LxW (textE Lib.itoa (.mk (bA oAt) (bA nm) 0 [x] p)) (tkE (.mk (bA oAt) (bA nm) 0 [x] p)) := by
      rw [te_at, tk_at]
      have := ((((lx_word h.1).cat (lx_s (c := 91) (by decide)) (hc_lit (by decide) [])).catW ih.1).cat (lx_s (c := 93) (by decide)) (hc_lit (by decide) []))
      exact (lx_eq this (by simp)).w
    refine ⟨hA, lx_clo hA fun _ => ?_⟩
    rw [te_at]
    obtain ⟨b, q, e, hb⟩ := word_head _ h.1
    exact ⟨b, _, by rw [e]; rfl, hb⟩
  | @const o p h =>
    have hw : WordB o := by
      rcases h with rfl | rfl
      · exact ⟨_, _, rfl, by decide, by decide, by decide⟩
      · exact ⟨_, _, rfl, by decide, by decide, by decide⟩
    have hA : LxW (textE Lib.itoa (.mk (bA o) ⟨#[]⟩ 0 [] p)) (tkE (.mk (bA o) ⟨#[]⟩ 0 [] p)) := by rw [te_const h, tk_const h]; exact lx_word hw
    refine ⟨hA, lx_clo hA fun _ => ?_⟩
    rw [te_const h]
    exact word_head _ hw
  | @one o x p h hx ih =>
    have hA : LxW (textE Lib.itoa (.mk (bA o) ⟨#[]⟩ 0 [x] p)) (tkE (.mk (bA o) ⟨#[]⟩ 0 [x] p)) := by
      rcases h with rfl | rfl
      · rw [te_neg, tk_neg]
        exact (lx_s (c := 45) (by decide)).catW ih.2.1
      · rw [te_not, tk_not]
        exact lx_one_thenW (by decide) (by decide) ih.2.1 ih.2.2
    refine ⟨hA, lx_clo hA fun q => ?_⟩
    have : opensO (Ex.mk (bA o) ⟨#[]⟩ 0 [x] p).op = true := opens_lit (by rcases h with rfl | rfl <;> rfl)
    rw [this] at q
    cases q
  | @two o x y p h hx hy ihx ihy =>
    have hA : LxW (textE Lib.itoa (.mk (bA o) ⟨#[]⟩ 0 [x, y] p)) (tkE (.mk (bA o) ⟨#[]⟩ 0 [x, y] p)) := by
      rw [te_two h, tk_two h]
      exact lxW_eq ((ihx.2.1.cat (lx_op (.inl h)) ⟨32, _, rfl, by decide⟩).catW ihy.2.1) (by simp)
    refine ⟨hA, lx_clo hA fun q => ?_⟩
    have : opensO (Ex.mk (bA o) ⟨#[]⟩ 0 [x, y] p).op = true := opens_two h
    rw [this] at q
    cases q
end
end Go.Proofs.YteaongdlbleehaaGreatDoor

/- The parse layer: what is printed of statements and programs is lexed as its tokens. -/
namespace Go.Proofs.YteaongdlbleehaaGreatDoor
section
variable {d : Nat} {nm o : Bs} {e f : Ex} {A B l : List St} {p : Int} {T rows : Bs} {us : List T3}
theorem ts_set : textS Lib.itoa (.mk (bA sSet) (bA nm) [e] [] [] p) d = nm ++ ([32] ++ [61] ++ [32]) ++ textE Lib.itoa e ++ [59] := by
  simp only [textS, stmtF, simpleF, bA_l, textL]; rfl
theorem ts_put : textS Lib.itoa (.mk (bA sPut) (bA nm) [e, f] [] [] p) d = nm ++ [91] ++ textE Lib.itoa e ++ [93] ++ ([32] ++ [61] ++ [32]) ++ textE Lib.itoa f ++ [59] := by
  simp only [textS, stmtF, simpleF, bA_l, textL]; rfl
theorem ts_inp : textS Lib.itoa (.mk (bA sInput) (bA nm) [] [] [] p) d = nm ++ (([32] ++ [61] ++ [32]) ++ sInput) ++ [59] := by
  simp only [textS, stmtF, simpleF, bA_l, textL, endsF]; simp [sInput, sIf, sWhile, sSet, sPut]
theorem ts_inps : textS Lib.itoa (.mk (bA sInput) (bA nm) [e, f] [] [] p) d = nm ++ (([32] ++ [61] ++ [32]) ++ sInput) ++ ([40] ++ textE Lib.itoa e ++ ([44] ++ [32]) ++ textE Lib.itoa f ++ [41]) ++ [59] := by
  simp only [textS, stmtF, simpleF, bA_l, textL]; rfl
theorem ts_if : textS Lib.itoa (.mk (bA sIf) ⟨#[]⟩ [e] A B p) d = sIf ++ [32] ++ textE Lib.itoa e ++ blockF d (textB Lib.itoa A (d + 1)) ++ (if B.length = 0 then [] else ([32] ++ tElse) ++ blockF d (textB Lib.itoa B (d + 1))) := by
  simp only [textS, stmtF, bA_l, textL]
  by_cases h : B.length = 0
  · rw [if_pos h, h]; rfl
  · rw [if_neg h]
    have : decide (0 < B.length) = true := by simp; omega
    rw [this]; rfl
theorem ts_while : textS Lib.itoa (.mk (bA sWhile) ⟨#[]⟩ [e] A [] p) d = sWhile ++ [32] ++ textE Lib.itoa e ++ blockF d (textB Lib.itoa A (d + 1)) := by
  simp only [textS, stmtF, bA_l, textL]
  exact List.append_nil _
theorem ts_claim (ho : o = sAssert ∨ o = sAssume) : textS Lib.itoa (.mk (bA o) ⟨#[]⟩ [e] [] [] p) d = o ++ [32] ++ textE Lib.itoa e ++ [59] := by
  rcases ho with rfl | rfl <;> (simp only [textS, stmtF, simpleF, bA_l, textL]; rfl)
theorem ts_call : textS Lib.itoa (.mk (bA sCall) (bA nm) [] [] [] p) d = (sCall ++ [32]) ++ nm ++ [59] := by
  simp only [textS, stmtF, simpleF, bA_l, textL]; rfl
theorem ts_skip : textS Lib.itoa (.mk (bA sSkip) ⟨#[]⟩ [] [] [] p) d = sSkip ++ [59] := by
  simp only [textS, stmtF, simpleF, bA_l, textL]; rfl
theorem word_kw : WordB sInput ∧ WordB sIf ∧ WordB sWhile ∧ WordB sAssert ∧ WordB sAssume ∧ WordB sCall ∧ WordB sSkip ∧ WordB tElse ∧ WordB tMain ∧ WordB tEnum ∧ WordB tVar ∧ WordB tProc ∧ WordB tInt ∧ WordB tBool := by
  refine ⟨?_, ?_, ?_, ?_, ?_, ?_, ?_, ?_, ?_, ?_, ?_, ?_, ?_, ?_⟩ <;> exact ⟨_, _, rfl, by decide, by decide, by decide⟩
theorem lx_ind (d : Nat) : LxA (ind d) [] := by
  induction d with
  | zero => exact lx_nil
  | succ d ih => exact (lx_sp.cat lx_sp).cat ih
theorem hc_block : Hc (blockF d rows) := ⟨32, _, rfl, by decide⟩
theorem lx_block (h : LxA rows us) : LxA (blockF d rows) (sg [123] :: (us ++ [sg [125]])) :=
  lx_eq (((((lx_sp.cat (lx_s (c := 123) (by decide))).cat lx_nl).cat h).cat (lx_ind d)).cat (lx_s (c := 125) (by decide))) (by simp)
theorem lx_semi : LxA [59] [sg [59]] := lx_s (by decide)
theorem hc_semi : Hc [59] := hc_lit (by decide) []
theorem lx_rows (h : ∀ s ∈ l, ∀ d, LxA (textS Lib.itoa s d) (tkS s)) (d : Nat) : LxA (textB Lib.itoa l d) (tkB l) := by
  induction l with
  | nil => exact lx_nil
  | cons s l ih =>
    simp only [textB, tkB]
    exact lx_eq ((((lx_ind d).cat (h s (List.mem_cons_self ..) d)).cat lx_nl).cat (ih fun x hx => h x (List.mem_cons_of_mem _ hx))) (by simp)
theorem lx_st {s : St} (h : OkS s) : ∀ d, LxA (textS Lib.itoa s d) (tkS s) := by
  obtain ⟨kInput, kIf, kWhile, kAssert, kAssume, kCall, kSkip, kElse, -⟩ := word_kw
  have hop : LxA ([32] ++ [61] ++ [32]) [sg [61]] := lx_op (.inr rfl)
  have hcop : Hc ([32] ++ [61] ++ [32]) := ⟨32, _, rfl, by decide⟩
  have hc32 : Hc [32] := hc_lit (by decide) []
  induction h with
  | @set nm e p hN he =>
    intro d
    rw [ts_set, tkS_set]
    exact lx_eq ((((lx_word hN.1).cat hop hcop).catW (lx_ex he).1).cat lx_semi hc_semi) (by simp)
  | @put nm e f p hN he hf =>
    intro d
    rw [ts_put, tkS_put]
    exact lx_eq (((((((lx_word hN.1).cat (lx_s (c := 91) (by decide)) (hc_lit (by decide) [])).catW (lx_ex he).1).cat (lx_s (c := 93) (by decide)) (hc_lit (by decide) [])).cat hop).catW (lx_ex hf).1).cat lx_semi hc_semi) (by simp)
  | @inp nm p hN =>
    intro d
    rw [ts_inp, tkS_inp]
    exact lx_eq (((lx_word hN.1).catW (hop.catW (lx_word kInput)) hcop.app).cat lx_semi hc_semi) (by simp)
  | @inps nm e f p hN he hf =>
    intro d
    rw [ts_inps, tkS_inps]
    exact lx_eq ((((lx_word hN.1).catW (hop.catW (lx_word kInput)) hcop.app).cat (((((lx_s (c := 40) (by decide)).catW (lx_ex he).1).cat ((lx_s (c := 44) (by decide)).cat lx_sp) ⟨44, _, rfl, by decide⟩).catW (lx_ex hf).1).cat (lx_s (c := 41) (by decide)) (hc_lit (by decide) [])) ⟨40, _, rfl, by decide⟩).cat lx_semi) (by simp)
  | @if_ e A B p he hA hB ihA ihB =>
    intro d
    rw [ts_if, tkS_if]
    have h1 := (((lx_word kIf).cat lx_sp hc32).catW (lx_ex he).1).cat (lx_block (d := d) (lx_rows ihA (d + 1))) hc_block
    by_cases hb : B.length = 0
    · rw [if_pos hb, if_pos hb]
      exact lx_eq (h1.cat lx_nil) (by simp)
    · rw [if_neg hb, if_neg hb]
      exact lx_eq (h1.cat ((lx_sp.catW (lx_word kElse)).cat (lx_block (d := d) (lx_rows ihB (d + 1))) hc_block)) (by simp)
  | @while_ e A p he hA ihA =>
    intro d
    rw [ts_while, tkS_while]
    exact lx_eq ((((lx_word kWhile).cat lx_sp hc32).catW (lx_ex he).1).cat (lx_block (d := d) (lx_rows ihA (d + 1))) hc_block) (by simp)
  | @claim o e p ho he =>
    intro d
    rw [ts_claim ho, tkS_claim ho]
    have hw : WordB o := by rcases ho with rfl | rfl <;> assumption
    exact lx_eq ((((lx_word hw).cat lx_sp hc32).catW (lx_ex he).1).cat lx_semi hc_semi) (by simp)
  | @call nm p hN =>
    intro d
    rw [ts_call, tkS_call]
    exact lx_eq ((((lx_word kCall).cat lx_sp hc32).catW (lx_word hN.1)).cat lx_semi hc_semi) (by simp)
  | @skip p =>
    intro d
    rw [ts_skip, tkS_skip]
    exact lx_eq ((lx_word kSkip).cat lx_semi hc_semi) (by simp)
theorem lx_blk (h : OkB l) (d : Nat) : LxA (textB Lib.itoa l d) (tkB l) := lx_rows (fun s hs => lx_st (h s hs)) d
end
/-! ### Programs -/
theorem lx_flat {α : Type} {g : α → Bs} {k : α → List T3} (l : List α) (h : ∀ x ∈ l, LxA (g x) (k x)) : LxA (l.flatMap g) (l.flatMap k) := by
  induction l with
  | nil => exact lx_nil
  | cons x l ih =>
    rw [List.flatMap_cons, List.flatMap_cons]
    exact (h x (List.mem_cons_self ..)).cat (ih fun y hy => h y (List.mem_cons_of_mem _ hy))
theorem lx_names (n : ByteArray) (r : List ByteArray) (h : ∀ m ∈ n :: r, NameB m.data.toList) : LxW (List.intercalate [44, 32] ((n :: r).map (·.data.toList))) (wd n.data.toList :: tkNs r) := by
  induction r generalizing n with
  | nil =>
    have := lx_word (h n (List.mem_cons_self ..)).1
    simpa [List.intercalate, tkNs] using this
  | cons m r ih =>
    have h1 := lx_word (h n (List.mem_cons_self ..)).1
    have h2 := ih m fun x hx => h x (List.mem_cons_of_mem _ hx)
    have h3 := h1.catW (((lx_s (c := 44) (by decide)).cat lx_sp).catW h2) ⟨44, _, rfl, by decide⟩
    simpa [List.intercalate, tkNs] using h3
theorem lx_enum (e : ByteArray × List ByteArray) (h : NameB e.1.data.toList ∧ e.2 ≠ [] ∧ ∀ n ∈ e.2, NameB n.data.toList) : LxA (enumF e) (tkEn e) := by
  obtain ⟨h1, h2, h3⟩ := h
  obtain ⟨nm, l⟩ := e
  have hw := word_kw.2.2.2.2.2.2.2.2.2.1
  cases l with
  | nil => exact absurd rfl h2
  | cons n r =>
    have k := (((((((lx_word hw).cat lx_sp (hc_lit (by decide) [])).catW (lx_word h1.1)).cat ((lx_sp.cat (lx_s (c := 123) (by decide))).cat lx_sp) ⟨32, _, rfl, by decide⟩).catW (lx_names n r h3))).cat ((lx_sp.cat (lx_s (c := 125) (by decide))).cat lx_nl) ⟨32, _, rfl, by decide⟩)
    refine lx_eq (T := enumF (nm, n :: r)) k ?_
    simp [tkEn]
theorem lx_var (v : ByteArray × ByteArray × Int) (h : NameB v.1.data.toList ∧ (v.2.1.data.toList = tInt ∨ v.2.1.data.toList = tBool ∨ NameB v.2.1.data.toList) ∧ 0 ≤ v.2.2 ∧ v.2.2 ≤ 1152921504606846976) : LxA (varF Lib.itoa v) (tkVa v) := by
  obtain ⟨h1, h2, h3, h4⟩ := h
  obtain ⟨nm, ty, k⟩ := v
  obtain ⟨-, -, -, -, -, -, -, -, -, -, kVar, -, kInt, kBool⟩ := word_kw
  have hw : WordB ty.data.toList := by
    rcases h2 with h2 | h2 | h2
    · dsimp only at h2; rw [h2]; exact kInt
    · dsimp only at h2; rw [h2]; exact kBool
    · exact h2.1
  have k1 := (((((lx_word kVar).cat lx_sp (hc_lit (by decide) [])).catW (lx_word h1.1)).cat ((lx_s (c := 58) (by decide)).cat lx_sp) ⟨58, _, rfl, by decide⟩).catW (lx_word hw))
  have kend : LxA ([59] ++ [10]) [sg [59]] := lx_semi.cat lx_nl
  unfold varF tkVa
  by_cases hk : 0 < k
  · simp only [if_pos hk]
    have k2 := (k1.cat ((((lx_s (c := 91) (by decide)).catW (lx_num h3 h4)).cat (lx_s (c := 93) (by decide)) (hc_lit (by decide) []))) ⟨91, _, rfl, by decide⟩).cat kend
    exact lx_eq k2 (by simp)
  · simp only [if_neg hk, List.append_nil, List.nil_append]
    exact lx_eq (k1.cat kend ⟨59, _, rfl, by decide⟩) (by simp)
theorem lx_proc (q : ByteArray × List St) (h : NameB q.1.data.toList ∧ OkB q.2) : LxA (procF Lib.itoa q) (tkPr q) := by
  obtain ⟨h1, h2⟩ := h
  obtain ⟨-, -, -, -, -, -, -, -, -, -, -, kProc, -⟩ := word_kw
  have k := (((((lx_word kProc).cat lx_sp (hc_lit (by decide) [])).catW (lx_word h1.1)).cat (lx_block (d := 0) (lx_blk h2 1)) hc_block).cat lx_nl)
  exact lx_eq (T := procF Lib.itoa q) k (by simp [tkPr])
theorem lx_prog {p : Pg} (h : OkP p) : LxA (printF Lib.itoa p) (tkP p) := by
  have kMain := word_kw.2.2.2.2.2.2.2.2.1
  have k := (((((lx_flat p.enums fun e he => lx_enum e (h.en e he)).cat (lx_flat p.vars fun v hv => lx_var v (h.va v hv))).cat (lx_flat p.procs fun q hq => lx_proc q (h.pr q hq))).catW (lx_word kMain)).cat (lx_block (d := 0) (lx_blk h.ma 1)) hc_block).cat lx_nl
  exact lx_eq (T := printF Lib.itoa p) k (by simp [tkP])
theorem lexS_of {T : Bs} {us : List T3} (h : LxA T us) (hl : T.length ≤ 4096) : ∃ ts, lexS T = (ts, T.length, 0) ∧ ts.map tk3 = us := by
  obtain ⟨f', ts, h1, h2, h3⟩ := h [] (T.length + 1) 0 [] (by rw [List.append_nil]; exact Nat.lt_succ_self _)
  refine ⟨ts, ?_, h3⟩
  unfold lexS
  rw [if_neg (by omega)]
  rw [List.append_nil] at h2
  rw [h2, Nat.zero_add, List.nil_append]
  cases f' <;> rfl
end Go.Proofs.YteaongdlbleehaaGreatDoor
