/- Put together of: PsOk, PsOkS. -/
import Derived.Test.YteaongdlbleehaaGreatDoorGPsTok
/- The parse layer: what is read of an expression is one that may be. -/
namespace Go.Proofs.YteaongdlbleehaaGreatDoor
/-- Tokens as they are lexed: names are words. -/
def TokG (l : List Tok) : Prop := ∀ t ∈ l, (t.kind = 0 → WordB t.text) ∧ t.n ≤ 1152921504606846976 ∧ t.text ≠ tAName
section
variable {len d a o e f : Nat} {t : Tok} {ts : List Tok} {s s1 : PS} {x y : Ex} {r : PS × Ex} {w : Bs}
def Sub (s' s : PS) : Prop := ∀ t, t ∈ s'.ts → t ∈ s.ts
theorem Sub.tr {a b c : PS} (h : Sub b a) (k : Sub c b) : Sub c a := fun t ht => h t (k t ht)
theorem Sub.good {s' : PS} (h : Sub s' s) (hg : TokG s.ts) : TokG s'.ts := fun t ht => hg t (h t ht)
theorem s_fail (e : Nat) (s : PS) : Sub (failF len e s) s := fun t ht => by
  unfold failF at ht
  split at ht
  · cases ht
  · exact ht
theorem s_take (s : PS) : Sub (takeF s) s := fun _ ht => List.mem_of_mem_tail ht
theorem s_exp (w : Bs) (s : PS) : Sub (expF len w s) s := by
  unfold expF; split
  · exact s_take s
  · exact s_fail 130 s
theorem s_enter (d : Nat) (s : PS) : Sub (enterF len d s) s := by
  unfold enterF; split
  · exact fun t ht => s_fail 131 s t (s_take _ t ht)
  · exact s_take s
theorem s_name (s : PS) : Sub (nameF len s).1 s := by
  unfold nameF; split
  · exact s_take s
  · exact s_fail 130 s
theorem s_ex (f : Nat) : ∀ m d s, Sub (exF len f m d s).1 s := by
  induction f with
  | zero => intro m d s t ht; exact ht
  | succ f ih =>
    intro m d s
    cases m with
    | part =>
      simp only [exF]
      split
      · exact fun t ht => s_enter d s t (ih _ _ _ t ht)
      · split
        · exact fun t ht => s_enter d s t (ih _ _ _ t ht)
        · split
          · exact fun t ht => s_enter d s t (ih _ _ _ t (s_exp _ _ t ht))
          · split
            · exact s_take s
            · split
              · exact s_take s
              · split
                · split
                  · exact fun t ht => s_take s t (s_enter d _ t (ih _ _ _ t (s_exp _ _ t ht)))
                  · exact s_take s
                · exact s_fail 130 s
    | parts of =>
      simp only [exF]
      split
      · exact ih _ _ _
      · exact fun t ht => ih _ _ _ t (ih _ _ _ t ht)
    | loop of e =>
      simp only [exF]
      split
      · split
        · exact fun t ht => s_take s t (ih _ _ _ t ht)
        · exact fun t ht => s_take s t (ih _ _ _ t (ih _ _ _ t ht))
      · exact fun t ht => ht
/-! ### Faults -/
theorem fail_no (he : e ≠ 0) : (failF len e s).no ≠ 0 := by
  unfold failF; split
  · exact he
  · assumption
theorem exp_no (h : (expF len w s).no = 0) : s.no = 0 ∧ isF len w s = true ∧ expF len w s = takeF s := by
  unfold expF at h ⊢
  split at h
  · rename_i hi
    rw [if_pos hi]
    exact ⟨h, hi, rfl⟩
  · exact absurd h (fail_no (by decide))
theorem enter_no (h : (enterF len d s).no = 0) : s.no = 0 ∧ enterF len d s = takeF s := by
  unfold enterF at h ⊢
  split at h
  · exact absurd h (fail_no (s := s) (len := len) (e := 131) (by decide))
  · rename_i hi
    rw [if_neg hi]
    exact ⟨h, rfl⟩
theorem name_no (h : (nameF len s).1.no = 0) : s.no = 0 ∧ isNm (nxt len s) = true ∧ nameF len s = (takeF s, (nxt len s).text) := by
  unfold nameF at h ⊢
  split at h
  · rename_i hi
    rw [if_pos hi]
    exact ⟨h, hi, rfl⟩
  · exact absurd h (fail_no (by decide))
theorem ex_no (f : Nat) : ∀ m d s, (exF len f m d s).1.no = 0 → s.no = 0 := by
  induction f with
  | zero => intro m d s h; exact h
  | succ f ih =>
    intro m d s
    cases m with
    | part =>
      simp only [exF]
      split
      · exact fun h => (enter_no (ih _ _ _ h)).1
      · split
        · exact fun h => (enter_no (ih _ _ _ h)).1
        · split
          · exact fun h => (enter_no (ih _ _ _ (exp_no h).1)).1
          · split
            · exact fun h => h
            · split
              · exact fun h => h
              · split
                · split
                  · exact fun h => (enter_no (ih _ _ _ (exp_no h).1)).1
                  · exact fun h => h
                · exact fun h => absurd h (fail_no (by decide))
    | parts of =>
      simp only [exF]
      split
      · exact ih _ _ _
      · exact fun h => ih _ _ _ (ih _ _ _ h)
    | loop of e =>
      simp only [exF]
      split
      · split
        · exact fun h => ih _ _ (takeF s) h
        · exact fun h => ih _ _ (takeF s) (ih _ _ _ h)
      · exact fun h => h
/-! ### What it is -/
theorem nxt_mem (h : (nxt len s).text ≠ []) : nxt len s ∈ s.ts := by
  unfold nxt at h ⊢
  cases hs : s.ts with
  | nil => rw [hs] at h; simp at h
  | cons t r => exact List.mem_cons_self
theorem nm_ok (hg : TokG s.ts) (h : isNm (nxt len s) = true) : NameB (nxt len s).text ∧ 1 ≤ s.ts.length := by
  unfold isNm nxt at h
  unfold nxt
  cases hs : s.ts with
  | nil => rw [hs] at h; simp at h
  | cons t r =>
    rw [hs] at h
    simp only [Bool.and_eq_true, beq_iff_eq, Bool.not_eq_true'] at h
    exact ⟨⟨(hg t (by rw [hs]; exact List.mem_cons_self)).1 h.1, h.2⟩, by simp⟩
theorem lev_mem {l : Bs} (h : levL l ≠ 0) : l ∈ twos := by
  unfold levL at h
  split at h
  · rename_i q; rw [beq_iff_eq] at q; subst q; decide
  · split at h
    · rename_i q; rw [beq_iff_eq] at q; subst q; decide
    · split at h
      · rename_i q
        have := List.contains_iff_mem.1 q
        simp only [List.mem_cons, List.not_mem_nil, or_false] at this
        rcases this with rfl | rfl | rfl | rfl | rfl | rfl <;> decide
      · split at h
        · rename_i q
          simp only [Bool.or_eq_true, beq_iff_eq] at q
          rcases q with rfl | rfl <;> decide
        · split at h
          · rename_i q
            simp only [Bool.or_eq_true, beq_iff_eq] at q
            rcases q with rfl | rfl <;> decide
          · exact absurd rfl h
def Lev : Md → Prop
  | .part => True
  | .parts o => 1 ≤ o ∧ o ≤ 6
  | .loop o _ => 1 ≤ o ∧ o ≤ 5
/-- It may be, and is no greater than what was taken. -/
def OkM : Md → PS → PS × Ex → Prop
  | .loop _ e0, s, r => OkE e0 → OkE r.2 ∧ szE r.2 + r.1.ts.length ≤ szE e0 + s.ts.length
  | _, s, r => OkE r.2 ∧ szE r.2 + r.1.ts.length ≤ s.ts.length
theorem txt_ne {b : Bs} (h : ((nxt len s).text == b) = true) (hb : b ≠ []) : (nxt len s).text = b ∧ 1 ≤ s.ts.length := by
  have e : (nxt len s).text = b := by simpa using h
  exact ⟨e, nxt_text_pos (len := len) (by rw [e]; exact hb)⟩
theorem sz_one {o nm : ByteArray} {n p : Int} : szE (.mk o nm n [x] p) = 1 + szE x := by simp only [szE, szL, Nat.add_zero]
theorem sz_two {o nm : ByteArray} {n p : Int} : szE (.mk o nm n [x, y] p) = 1 + (szE x + szE y) := by simp only [szE, szL, Nat.add_zero]
theorem sz_nil {o nm : ByteArray} {n p : Int} : szE (.mk o nm n [] p) = 1 := by simp only [szE, szL, Nat.add_zero]
set_option maxHeartbeats 1600000 in
theorem ex_ok (f : Nat) : ∀ m d s, Need m s ≤ f → Lev m → TokG s.ts → (exF len f m d s).1.no = 0 → OkM m s (exF len f m d s) := by
  induction f with
  | zero =>
    intro m d s hn hl
    cases m with
    | part => simp only [Need] at hn; omega
    | parts o => simp only [Need] at hn; simp only [Lev] at hl; omega
    | loop o e => simp only [Need] at hn; omega
  | succ f ih =>
    intro m d s hn hl hg
    have ht := take_len s
    cases m with
    | part =>
      simp only [Need] at hn
      simp only [exF]
      split
      · rename_i h
        intro hno
        obtain ⟨ht1, ht2⟩ := txt_ne h (by decide)
        obtain ⟨h0, he⟩ := enter_no (ex_no _ _ _ _ hno)
        rw [he] at hno ⊢
        obtain ⟨k1, k2⟩ := ih .part (d + 1) (takeF s) (by simp only [Need]; omega) trivial ((s_take s).good hg) hno
        refine ⟨.one (.inl rfl) k1, ?_⟩
        show szE (.mk _ _ _ [_] _) + _ ≤ _
        rw [sz_one]; dsimp only; omega
      · split
        · rename_i h
          intro hno
          obtain ⟨ht1, ht2⟩ := txt_ne h (by decide)
          obtain ⟨h0, he⟩ := enter_no (ex_no _ _ _ _ hno)
          rw [he] at hno ⊢
          obtain ⟨k1, k2⟩ := ih .part (d + 1) (takeF s) (by simp only [Need]; omega) trivial ((s_take s).good hg) hno
          refine ⟨.one (.inr rfl) k1, ?_⟩
          show szE (.mk _ _ _ [_] _) + _ ≤ _
          rw [sz_one]; dsimp only; omega
        · split
          · rename_i h
            intro hno
            obtain ⟨ht1, ht2⟩ := txt_ne h (by decide)
            obtain ⟨h1, h2, h3⟩ := exp_no hno
            obtain ⟨h0, he⟩ := enter_no (ex_no _ _ _ _ h1)
            rw [h3]
            rw [he] at h1 ⊢
            obtain ⟨k1, k2⟩ := ih (.parts 1) (d + 1) (takeF s) (by simp only [Need]; omega) ⟨by omega, by omega⟩ ((s_take s).good hg) h1
            refine ⟨k1, ?_⟩
            show szE _ + (takeF _).ts.length ≤ _
            rw [take_len]; dsimp only; omega
          · split
            · rename_i h
              intro hno
              have hh : (nxt len s).text = oTrue ∨ (nxt len s).text = oFalse := by simpa using h
              have ht2 := nxt_text_pos (len := len) (s := s) (by rcases hh with e | e <;> (rw [e]; decide))
              refine ⟨.const hh, ?_⟩
              show szE (.mk _ _ _ [] _) + (takeF _).ts.length ≤ _
              rw [sz_nil]; omega
            · split
              · rename_i h
                intro hno
                have hp : 1 ≤ s.ts.length ∧ (nxt len s).n ≤ 1152921504606846976 := by
                  unfold nxt at h ⊢
                  cases hs : s.ts with
                  | nil => rw [hs] at h; simp at h
                  | cons t r => exact ⟨by simp, (hg t (by rw [hs]; exact List.mem_cons_self)).2.1⟩
                refine ⟨.num (by omega) (by have := hp.2; omega), ?_⟩
                show szE (.mk _ _ _ [] _) + (takeF _).ts.length ≤ _
                rw [sz_nil]; omega
              · split
                · rename_i h
                  obtain ⟨hN, hp⟩ := nm_ok hg h
                  split
                  · rename_i hb
                    intro hno
                    have hp2 := nxt_text_pos (len := len) (s := takeF s) (by unfold isF at hb; intro e; rw [e] at hb; cases hb)
                    obtain ⟨h1, h2, h3⟩ := exp_no hno
                    obtain ⟨h0, he⟩ := enter_no (ex_no _ _ _ _ h1)
                    rw [h3]
                    rw [he] at h1 ⊢
                    have ht3 := take_len (takeF s)
                    obtain ⟨k1, k2⟩ := ih (.parts 1) (d + 1) (takeF (takeF s)) (by simp only [Need]; omega) ⟨by omega, by omega⟩ ((s_take _).good ((s_take s).good hg)) h1
                    refine ⟨.at_ hN k1, ?_⟩
                    show szE (.mk _ _ _ [_] _) + (takeF _).ts.length ≤ _
                    rw [sz_one, take_len]; omega
                  · intro hno
                    refine ⟨.name hN, ?_⟩
                    show szE (.mk _ _ _ [] _) + (takeF _).ts.length ≤ _
                    rw [sz_nil]; omega
                · exact fun hno => absurd hno (fail_no (by decide))
    | parts of =>
      simp only [Need] at hn
      simp only [Lev] at hl
      simp only [exF]
      split
      · exact fun hno => ih .part d s (by simp only [Need]; omega) trivial hg hno
      · intro hno
        have h1 := ex_no _ _ _ _ hno
        obtain ⟨k1, k2⟩ := ih (.parts (of + 1)) d s (by simp only [Need]; omega) ⟨by omega, by omega⟩ hg h1
        have hln := exF_len (len := len) f (.parts (of + 1)) d s
        obtain ⟨k3, k4⟩ := ih (.loop of (exF len f (.parts (of + 1)) d s).2) d (exF len f (.parts (of + 1)) d s).1 (by simp only [Need]; omega) ⟨by omega, by omega⟩ ((s_ex f _ _ _).good hg) hno k1
        exact ⟨k3, by omega⟩
    | loop of e0 =>
      simp only [Need] at hn
      simp only [Lev] at hl
      simp only [exF]
      split
      · rename_i h
        have hm := lev_mem (l := (nxt len s).text) (by omega)
        have hp := nxt_text_pos (len := len) (s := s) (by intro e; rw [e] at hm; revert hm; decide)
        have hgt := (s_take s).good hg
        split
        · intro hno h0
          obtain ⟨k1, k2⟩ := ih (.parts (of + 1)) d (takeF s) (by simp only [Need]; omega) ⟨by omega, by omega⟩ hgt hno
          refine ⟨.two hm h0 k1, ?_⟩
          show szE (.mk _ _ _ [_, _] _) + _ ≤ _
          rw [sz_two]; dsimp only; omega
        · intro hno h0
          obtain ⟨k1, k2⟩ := ih (.parts (of + 1)) d (takeF s) (by simp only [Need]; omega) ⟨by omega, by omega⟩ hgt (ex_no _ _ _ _ hno)
          have hln := exF_len (len := len) f (.parts (of + 1)) d (takeF s)
          have h9 := ih (.loop of (.mk (bA (nxt len s).text) ⟨#[]⟩ 0 [e0, (exF len f (.parts (of + 1)) d (takeF s)).2] (nxt len s).at_)) d (exF len f (.parts (of + 1)) d (takeF s)).1 (by simp only [Need]; omega) ⟨by omega, by omega⟩ ((s_ex f _ _ _).good hgt) hno
          simp only [OkM] at h9
          have h10 : OkE (.mk (bA (nxt len s).text) ⟨#[]⟩ 0 [e0, (exF len f (.parts (of + 1)) d (takeF s)).2] (nxt len s).at_) := OkE.two hm h0 k1
          obtain ⟨k3, k4⟩ := h9 h10
          rw [sz_two] at k4
          exact ⟨k3, by omega⟩
      · exact fun hno h0 => ⟨h0, Nat.le_refl _⟩
/-- A whole expression. -/
theorem exE_ok (hg : TokG s.ts) (h : (exE len s).1.no = 0) : s.no = 0 ∧ OkE (exE len s).2 ∧ szE (exE len s).2 + (exE len s).1.ts.length ≤ s.ts.length ∧ Sub (exE len s).1 s := by
  unfold exE at h ⊢
  have k := ex_ok (len := len) (8 * s.ts.length + 7) (.parts 1) 0 s (by simp only [Need]; omega) ⟨by omega, by omega⟩ hg h
  exact ⟨ex_no _ _ _ _ h, k.1, k.2, s_ex _ _ _ _⟩
end
end Go.Proofs.YteaongdlbleehaaGreatDoor

/- The parse layer: what is read of statements is what may be. -/
namespace Go.Proofs.YteaongdlbleehaaGreatDoor
section
variable {len d a o f k : Nat} {t : Tok} {ts : List Tok} {s s1 : PS} {x y e : Ex} {w nm op : Bs} {p : Int} {blk : PS → PS × List St} {l : List St}
theorem exE_st (s : PS) (hg : TokG s.ts) : ∃ r, exE len s = r ∧ Sub r.1 s ∧ (r.1.no = 0 → s.no = 0 ∧ OkE r.2 ∧ szE r.2 + r.1.ts.length ≤ s.ts.length) := by
  refine ⟨_, rfl, ?_, fun h => ?_⟩
  · unfold exE
    exact s_ex _ _ _ _
  · obtain ⟨h1, h2, h3, -⟩ := exE_ok hg h
    exact ⟨h1, h2, h3⟩
theorem exp_st (w : Bs) (hw : w ≠ []) (s : PS) : ∃ s', expF len w s = s' ∧ Sub s' s ∧ (s'.no = 0 → s.no = 0 ∧ s'.ts.length + 1 = s.ts.length) := by
  refine ⟨_, rfl, s_exp w s, fun h => ?_⟩
  obtain ⟨h1, h2, h3⟩ := exp_no h
  have := nxt_text_pos (len := len) (s := s) (by unfold isF at h2; rw [beq_iff_eq] at h2; rw [h2]; exact hw)
  refine ⟨h1, ?_⟩
  rw [h3, take_len]
  omega
theorem take_st (s : PS) : ∃ s', takeF s = s' ∧ Sub s' s ∧ s'.no = s.no ∧ s'.ts.length = s.ts.length - 1 := ⟨_, rfl, s_take s, rfl, take_len s⟩
theorem is_pos' (hw : w ≠ []) (h : isF len w s = true) : 1 ≤ s.ts.length := nxt_text_pos (len := len) (by unfold isF at h; rw [beq_iff_eq] at h; rw [h]; exact hw)
theorem szL_one : szL [x] = szE x := by simp only [szL, Nat.add_zero]
theorem szL_two : szL [x, y] = szE x + szE y := by simp only [szL, Nat.add_zero]
theorem szS_mk {o nm : ByteArray} {e : List Ex} {A B : List St} : szS (.mk o nm e A B p) = 1 + szL e + szB A + szB B := by simp only [szS]
theorem szB_nil : szB [] = 0 := by simp only [szB]
theorem szL_nil : szL [] = 0 := by simp only [szL]
/-- It may be, and is no greater than what was taken. -/
def StK (s : PS) (r : PS × St) : Prop := Sub r.1 s ∧ (r.1.no = 0 → s.no = 0 ∧ OkS r.2 ∧ szS r.2 + r.1.ts.length ≤ s.ts.length + 1)
def BlkK (blk : PS → PS × List St) : Prop := ∀ s, TokG s.ts → Sub (blk s).1 s ∧ ((blk s).1.no = 0 → s.no = 0 ∧ OkB (blk s).2 ∧ szB (blk s).2 + (blk s).1.ts.length ≤ s.ts.length)
theorem blk_st (hb : BlkK blk) (s : PS) (hg : TokG s.ts) : ∃ r, blk s = r ∧ Sub r.1 s ∧ (r.1.no = 0 → s.no = 0 ∧ OkB r.2 ∧ szB r.2 + r.1.ts.length ≤ s.ts.length) := ⟨_, rfl, (hb s hg).1, (hb s hg).2⟩
theorem put_ok (hN : NameB nm) (hg : TokG s.ts) : StK s (putS len nm p s) := by
  obtain ⟨r1, e1, u1, k1⟩ := exE_st (len := len) s hg
  obtain ⟨s2, e2, u2, k2⟩ := exp_st (len := len) [93] (by decide) r1.1
  obtain ⟨s3, e3, u3, k3⟩ := exp_st (len := len) [61] (by decide) s2
  obtain ⟨r4, e4, u4, k4⟩ := exE_st (len := len) s3 (u3.good (u2.good (u1.good hg)))
  obtain ⟨s5, e5, u5, k5⟩ := exp_st (len := len) [59] (by decide) r4.1
  unfold putS
  rw [e1, e2, e3, e4, e5]
  refine ⟨u1.tr (u2.tr (u3.tr (u4.tr u5))), fun h => ?_⟩
  obtain ⟨n5, c5⟩ := k5 h
  obtain ⟨n4, o4, c4⟩ := k4 n5
  obtain ⟨n3, c3⟩ := k3 n4
  obtain ⟨n2, c2⟩ := k2 n3
  obtain ⟨n1, o1, c1⟩ := k1 n2
  refine ⟨n1, .put hN o1 o4, ?_⟩
  dsimp only
  rw [szS_mk, szL_two, szB_nil]
  omega
theorem input_ok (hN : NameB nm) (hg : TokG s.ts) : StK s (inputS len nm p s) := by
  unfold inputS
  split
  · rename_i hi
    have hp := is_pos' (by decide) hi
    obtain ⟨s0, e0, u0, q0, c0⟩ := take_st s
    rw [e0]
    obtain ⟨r1, e1, u1, k1⟩ := exE_st (len := len) s0 (u0.good hg)
    obtain ⟨s2, e2, u2, k2⟩ := exp_st (len := len) [44] (by decide) r1.1
    obtain ⟨r4, e4, u4, k4⟩ := exE_st (len := len) s2 (u2.good (u1.good (u0.good hg)))
    obtain ⟨s5, e5, u5, k5⟩ := exp_st (len := len) [41] (by decide) r4.1
    obtain ⟨s6, e6, u6, k6⟩ := exp_st (len := len) [59] (by decide) s5
    rw [e1, e2, e4, e5, e6]
    refine ⟨u0.tr (u1.tr (u2.tr (u4.tr (u5.tr u6)))), fun h => ?_⟩
    obtain ⟨n6, c6⟩ := k6 h
    obtain ⟨n5, c5⟩ := k5 n6
    obtain ⟨n4, o4, c4⟩ := k4 n5
    obtain ⟨n2, c2⟩ := k2 n4
    obtain ⟨n1, o1, c1⟩ := k1 n2
    refine ⟨by rw [← q0]; exact n1, .inps hN o1 o4, ?_⟩
    dsimp only
    rw [szS_mk, szL_two, szB_nil]
    omega
  · obtain ⟨s5, e5, u5, k5⟩ := exp_st (len := len) [59] (by decide) s
    rw [e5]
    refine ⟨u5, fun h => ?_⟩
    obtain ⟨n5, c5⟩ := k5 h
    refine ⟨n5, .inp hN, ?_⟩
    dsimp only
    rw [szS_mk, szL_nil, szB_nil]
    omega
theorem change_ok (hN : NameB nm) (hg : TokG s.ts) : StK s (changeS len nm p s) := by
  unfold changeS
  obtain ⟨s1, e1, u1, k1⟩ := exp_st (len := len) [61] (by decide) s
  rw [e1]
  split
  · rename_i hi
    have hp := is_pos' (by decide) hi
    obtain ⟨s0, e0, u0, q0, c0⟩ := take_st s
    rw [e0]
    obtain ⟨r, hr⟩ : ∃ r, putS len nm p s0 = r := ⟨_, rfl⟩
    obtain ⟨v1, v2⟩ := put_ok (len := len) (p := p) hN (u0.good hg)
    rw [hr] at v1 v2 ⊢
    refine ⟨u0.tr v1, fun h => ?_⟩
    obtain ⟨w1, w2, w3⟩ := v2 h
    exact ⟨by rw [← q0]; exact w1, w2, by omega⟩
  · split
    · obtain ⟨s0, e0, u0, q0, c0⟩ := take_st s1
      rw [e0]
      obtain ⟨r, hr⟩ : ∃ r, inputS len nm p s0 = r := ⟨_, rfl⟩
      obtain ⟨v1, v2⟩ := input_ok (len := len) (p := p) hN (u0.good (u1.good hg))
      rw [hr] at v1 v2 ⊢
      refine ⟨u1.tr (u0.tr v1), fun h => ?_⟩
      obtain ⟨w1, w2, w3⟩ := v2 h
      obtain ⟨n1, c1⟩ := k1 (by rw [← q0]; exact w1)
      exact ⟨n1, w2, by omega⟩
    · obtain ⟨r4, e4, u4, k4⟩ := exE_st (len := len) s1 (u1.good hg)
      obtain ⟨s5, e5, u5, k5⟩ := exp_st (len := len) [59] (by decide) r4.1
      rw [e4, e5]
      refine ⟨u1.tr (u4.tr u5), fun h => ?_⟩
      obtain ⟨n5, c5⟩ := k5 h
      obtain ⟨n4, o4, c4⟩ := k4 n5
      obtain ⟨n1, c1⟩ := k1 n4
      refine ⟨n1, .set hN o4, ?_⟩
      dsimp only
      rw [szS_mk, szL_one, szB_nil]
      omega
theorem choice_ok (hb : BlkK blk) (hg : TokG s.ts) : StK s (choiceS len blk sIf p s) := by
  unfold choiceS loopS
  obtain ⟨r1, e1, u1, k1⟩ := exE_st (len := len) s hg
  obtain ⟨r2, e2, u2, k2⟩ := blk_st hb r1.1 (u1.good hg)
  rw [e1, e2]
  split
  · obtain ⟨s0, e0, u0, q0, c0⟩ := take_st r2.1
    rw [e0]
    obtain ⟨r3, e3, u3, k3⟩ := blk_st hb s0 (u0.good (u2.good (u1.good hg)))
    rw [e3]
    refine ⟨u1.tr (u2.tr (u0.tr u3)), fun h => ?_⟩
    obtain ⟨n3, o3, c3⟩ := k3 h
    obtain ⟨n2, o2, c2⟩ := k2 (by rw [← q0]; exact n3)
    obtain ⟨n1, o1, c1⟩ := k1 n2
    refine ⟨n1, .if_ o1 o2 o3, ?_⟩
    dsimp only
    rw [szS_mk, szL_one]
    omega
  · refine ⟨u1.tr u2, fun h => ?_⟩
    obtain ⟨n2, o2, c2⟩ := k2 h
    obtain ⟨n1, o1, c1⟩ := k1 n2
    refine ⟨n1, .if_ o1 o2 (fun x hx => by cases hx), ?_⟩
    dsimp only
    rw [szS_mk, szL_one, szB_nil]
    omega
theorem while_ok (hb : BlkK blk) (hg : TokG s.ts) : StK s (loopS len blk sWhile p s) := by
  unfold loopS
  obtain ⟨r1, e1, u1, k1⟩ := exE_st (len := len) s hg
  obtain ⟨r2, e2, u2, k2⟩ := blk_st hb r1.1 (u1.good hg)
  rw [e1, e2]
  refine ⟨u1.tr u2, fun h => ?_⟩
  obtain ⟨n2, o2, c2⟩ := k2 h
  obtain ⟨n1, o1, c1⟩ := k1 n2
  refine ⟨n1, .while_ o1 o2, ?_⟩
  dsimp only
  rw [szS_mk, szL_one, szB_nil]
  omega
theorem claim_ok (ho : op = sAssert ∨ op = sAssume) (hg : TokG s.ts) : StK s (claimS len op p s) := by
  unfold claimS
  obtain ⟨r1, e1, u1, k1⟩ := exE_st (len := len) s hg
  obtain ⟨s5, e5, u5, k5⟩ := exp_st (len := len) [59] (by decide) r1.1
  rw [e1, e5]
  refine ⟨u1.tr u5, fun h => ?_⟩
  obtain ⟨n5, c5⟩ := k5 h
  obtain ⟨n1, o1, c1⟩ := k1 n5
  refine ⟨n1, .claim ho o1, ?_⟩
  dsimp only
  rw [szS_mk, szL_one, szB_nil]
  omega
theorem name_st (s : PS) (hg : TokG s.ts) : ∃ r, nameF len s = r ∧ Sub r.1 s ∧ (r.1.no = 0 → s.no = 0 ∧ NameB r.2 ∧ r.1.ts.length + 1 = s.ts.length) := by
  refine ⟨_, rfl, s_name s, fun h => ?_⟩
  obtain ⟨h1, h2, h3⟩ := name_no h
  obtain ⟨h4, h5⟩ := nm_ok hg h2
  refine ⟨h1, by rw [h3]; exact h4, ?_⟩
  rw [h3, take_len]
  omega
theorem call_ok (hg : TokG s.ts) : StK s (callS len sCall p s) := by
  unfold callS
  obtain ⟨r1, e1, u1, k1⟩ := name_st (len := len) s hg
  obtain ⟨s5, e5, u5, k5⟩ := exp_st (len := len) [59] (by decide) r1.1
  rw [e1, e5]
  refine ⟨u1.tr u5, fun h => ?_⟩
  obtain ⟨n5, c5⟩ := k5 h
  obtain ⟨n1, o1, c1⟩ := k1 n5
  refine ⟨n1, .call o1, ?_⟩
  dsimp only
  rw [szS_mk, szL_nil, szB_nil]
  omega
/-- A statement, from its first token on. -/
theorem stmt_ok (hb : BlkK blk) (hg : TokG s.ts) : Sub (stmtS len blk s).1 s ∧ ((stmtS len blk s).1.no = 0 → s.no = 0 ∧ OkS (stmtS len blk s).2 ∧ szS (stmtS len blk s).2 + (stmtS len blk s).1.ts.length ≤ s.ts.length) := by
  obtain ⟨s0, e0, u0, q0, c0⟩ := take_st s
  have fin : ∀ r : PS × St, 1 ≤ s.ts.length → StK s0 r → Sub r.1 s ∧ (r.1.no = 0 → s.no = 0 ∧ OkS r.2 ∧ szS r.2 + r.1.ts.length ≤ s.ts.length) := fun r hp ⟨v1, v2⟩ => by
    refine ⟨u0.tr v1, fun h => ?_⟩
    obtain ⟨w1, w2, w3⟩ := v2 h
    exact ⟨by rw [← q0]; exact w1, w2, by omega⟩
  have g0 := u0.good hg
  have htx : (nxt len s).text ≠ tAName := by
    unfold nxt
    cases hs : s.ts with
    | nil => show ([] : Bs) ≠ tAName; decide
    | cons t r => exact (hg t (by rw [hs]; exact List.mem_cons_self)).2.2
  cases hn : isNm (nxt len s)
  · simp only [stmtS, keyF, hn, Bool.false_eq_true, if_false]
    rw [if_neg (by rw [beq_iff_eq]; exact htx)]
    split
    · rename_i h
      obtain ⟨h1, h2⟩ := txt_ne h (by decide)
      rw [h1, e0]
      exact fin _ h2 (choice_ok hb g0)
    · split
      · rename_i h
        obtain ⟨h1, h2⟩ := txt_ne h (by decide)
        rw [h1, e0]
        exact fin _ h2 (while_ok hb g0)
      · split
        · rename_i h
          have hh : (nxt len s).text = sAssert ∨ (nxt len s).text = sAssume := by simpa using h
          have h2 := nxt_text_pos (len := len) (s := s) (by rcases hh with e | e <;> (rw [e]; decide))
          rw [e0]
          exact fin _ h2 (claim_ok hh g0)
        · split
          · rename_i h
            obtain ⟨h1, h2⟩ := txt_ne h (by decide)
            rw [h1, e0]
            exact fin _ h2 (call_ok g0)
          · split
            · rename_i h
              obtain ⟨h1, h2⟩ := txt_ne h (by decide)
              rw [h1, e0]
              obtain ⟨s5, e5, u5, k5⟩ := exp_st (len := len) [59] (by decide) s0
              rw [e5]
              refine fin _ h2 ⟨u5, fun h => ?_⟩
              obtain ⟨n5, c5⟩ := k5 h
              refine ⟨n5, .skip, ?_⟩
              dsimp only
              rw [szS_mk, szL_nil, szB_nil]
              omega
            · exact ⟨s_fail 130 s, fun h => absurd h (fail_no (by decide))⟩
  · obtain ⟨hN, hp⟩ := nm_ok hg hn
    simp only [stmtS, keyF, hn, if_true]
    rw [if_pos (by decide), e0]
    exact fin _ hp (change_ok hN g0)
/-! ### Blocks -/
theorem szB_snoc (l : List St) (x : St) : szB (l ++ [x]) = szB l + szS x := by
  induction l with
  | nil => simp only [List.nil_append, szB, Nat.zero_add, Nat.add_zero]
  | cons y l ih => simp only [List.cons_append, szB, ih]; omega
theorem rowsS_ok (hb : BlkK blk) (f : Nat) : ∀ (s : PS) (l : List St), TokG s.ts → OkB l → Sub (rowsS len blk f s l).1 s ∧ ((rowsS len blk f s l).1.no = 0 → s.no = 0 ∧ OkB (rowsS len blk f s l).2 ∧ szB (rowsS len blk f s l).2 + (rowsS len blk f s l).1.ts.length ≤ szB l + s.ts.length) := by
  induction f with
  | zero => exact fun s l hg hl => ⟨fun _ h => h, fun h => ⟨h, hl, Nat.le_refl _⟩⟩
  | succ f ih =>
    intro s l hg hl
    simp only [rowsS]
    split
    · rename_i h0
      obtain ⟨v1, v2⟩ := stmt_ok (len := len) hb hg
      obtain ⟨r, hr⟩ : ∃ r, stmtS len blk s = r := ⟨_, rfl⟩
      rw [hr] at v1 v2 ⊢
      by_cases h9 : r.1.no = 0
      · obtain ⟨w1, w2, w3⟩ := v2 h9
        obtain ⟨x1, x2⟩ := ih r.1 (l ++ [r.2]) (v1.good hg) (fun x hx => by
          rcases List.mem_append.1 hx with hx | hx
          · exact hl x hx
          · rw [List.mem_singleton] at hx; subst hx; exact w2)
        obtain ⟨q, hq⟩ : ∃ q, rowsS len blk f r.1 (l ++ [r.2]) = q := ⟨_, rfl⟩
        rw [hq] at x1 x2 ⊢
        refine ⟨v1.tr x1, fun h => ?_⟩
        obtain ⟨y1, y2, y3⟩ := x2 h
        rw [szB_snoc] at y3
        exact ⟨w1, y2, by omega⟩
      · have hst : rowsS len blk f r.1 (l ++ [r.2]) = (r.1, l ++ [r.2]) := rows_stop _ _ (fun h => h9 h.1)
        rw [hst]
        exact ⟨v1, fun h => absurd h h9⟩
    · exact ⟨fun _ h => h, fun h => ⟨h, hl, Nat.le_refl _⟩⟩
theorem open_st (d : Nat) (s : PS) : Sub (openS len d s) s ∧ ((openS len d s).no = 0 → s.no = 0 ∧ (openS len d s).ts.length + 1 = s.ts.length) := by
  unfold openS
  split
  · rename_i h
    obtain ⟨s5, e5, u5, k5⟩ := exp_st (len := len) [123] (by decide) (failF len 131 s)
    rw [e5]
    exact ⟨(s_fail 131 s).tr u5, fun h => absurd (k5 h).1 (fail_no (by decide))⟩
  · obtain ⟨s5, e5, u5, k5⟩ := exp_st (len := len) [123] (by decide) s
    rw [e5]
    exact ⟨u5, k5⟩
theorem blkS_ok (f : Nat) : ∀ d, BlkK (blkS len f d) := by
  induction f with
  | zero => exact fun d s hg => ⟨fun _ h => h, fun h => ⟨h, (fun x hx => by cases hx), by simp only [blkS, szB]; omega⟩⟩
  | succ f ih =>
    intro d s hg
    simp only [blkS]
    obtain ⟨v1, v2⟩ := open_st (len := len) d s
    obtain ⟨s1, h1⟩ : ∃ q, openS len d s = q := ⟨_, rfl⟩
    rw [h1] at v1 v2 ⊢
    obtain ⟨x1, x2⟩ := rowsS_ok (len := len) (ih (d + 1)) (s1.ts.length + 2) s1 [] (v1.good hg) (fun x hx => by cases hx)
    obtain ⟨q, hq⟩ : ∃ q, rowsS len (blkS len f (d + 1)) (s1.ts.length + 2) s1 [] = q := ⟨_, rfl⟩
    rw [hq] at x1 x2 ⊢
    obtain ⟨s5, e5, u5, k5⟩ := exp_st (len := len) [125] (by decide) q.1
    rw [e5]
    refine ⟨v1.tr (x1.tr u5), fun h => ?_⟩
    obtain ⟨n5, c5⟩ := k5 h
    obtain ⟨y1, y2, y3⟩ := x2 n5
    obtain ⟨z1, z2⟩ := v2 y1
    rw [szB_nil] at y3
    exact ⟨z1, y2, by omega⟩
theorem blkE_ok : BlkK (blkE len) := blkS_ok 18 0
end
end Go.Proofs.YteaongdlbleehaaGreatDoor
