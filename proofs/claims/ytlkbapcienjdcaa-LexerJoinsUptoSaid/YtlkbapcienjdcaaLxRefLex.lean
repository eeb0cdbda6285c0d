/- The lexer layer: Lex of the document. -/
import Derived.Test.YtlkbapcienjdcaaLxRefNum
namespace Go.Proofs.Ytlkbapcienjdcaa
open Go.RowKit
theorem rinfo : (Try.prog.info? 31).map (fun i => (i.zero, i.size, i.bytes)) = some (some (.agg #[.int .i64 0, .string ⟨#[]⟩, .int .i64 0, .int .i64 0]), 4, 40) := by kernel_rfl
section
variable {c : UInt8} {r l : List UInt8} {pos q : Nat}
/-- What is cut out of a text. -/
theorem piece_of {s : ByteArray} (hl : s.data.toList = l) (hcr : l.drop pos = c :: r) (h1 : 1 ≤ q) (h2 : q ≤ r.length + 1) (hf : c.toNat < 128 → q = flen (c :: r)) : Piece (s.extract pos (pos + q)) c r q := by
  have hx : (s.extract pos (pos + q)).data.toList = c :: r.take (q - 1) := by
    rw [Lib.extract_data, hl, hcr, show pos + q - pos = q - 1 + 1 by omega]
    rfl
  refine ⟨h1, h2, ?_, hx, hf⟩
  rw [← list_size, hx]
  simp only [List.length_cons, List.length_take]
  omega
theorem at_byte {s : ByteArray} (hl : s.data.toList = l) (hcr : l.drop pos = c :: r) (h1 : 1 ≤ q) (hq : pos + q < s.size) : ∃ b, s[pos + q] = b ∧ r[q - 1]? = some b := by
  refine ⟨_, rfl, ?_⟩
  have e := get_list s (pos + q) hq
  have h2 : (l.drop pos)[q]? = some (s[pos + q]) := by
    rw [List.getElem?_drop, ← hl, List.getElem?_eq_getElem (by rw [list_size]; exact hq), e]
  rw [hcr] at h2
  obtain ⟨k, rfl⟩ : ∃ k, q = k + 1 := ⟨q - 1, by omega⟩
  simpa using h2
/-- What is told of one byte more. -/
theorem flen_more {b : UInt8} (hk : c = 35 ∨ letterB c = true ∨ digitB c = true) (h1 : 1 ≤ q) (hq : q ≤ flen (c :: r)) (hb : r[q - 1]? = some b) : (onB c b = true → q + 1 ≤ flen (c :: r)) ∧ (onB c b = false → flen (c :: r) = q) := by
  rw [flen_on hk] at hq ⊢
  obtain ⟨h2, h3⟩ := List.getElem?_eq_some_iff.1 hb
  refine ⟨fun h => ?_, fun h => ?_⟩
  · have := tw_on (p := onB c) (r := r) (j := q - 1) (by omega) h2 (by rw [h3]; exact h)
    omega
  · have := tw_off (p := onB c) (r := r) (j := q - 1) (by omega) (fun _ => by rw [h3]; exact h)
    omega
theorem flen_end (h : r.length + 1 ≤ q) (hq : q ≤ flen (c :: r)) : flen (c :: r) = q := by have := flen_le c r; omega
theorem tokAt_letter (h : letterB c = true) : tokAt c r = if 16 < flen (c :: r) then .inr 111 else .inl (0, 0) := by
  have h1 := flen_pos c r
  have h2 := flen_le c r
  unfold tokAt
  rw [take_flen]
  simp only [tokP]
  rw [if_pos h, List.length_cons, List.length_take, show min (flen (c :: r) - 1) r.length + 1 = flen (c :: r) by omega]
theorem tokAt_digit (h : digitB c = true) : tokAt c r = match numL (c :: r.take (flen (c :: r) - 1)) with | some v => .inl (1, v) | none => .inr 111 := by
  unfold tokAt
  rw [take_flen]
  simp only [tokP]
  rw [digit_letter h, h]
  rfl
theorem tokAt_sign (h : ¬ (c = 35 ∨ letterB c = true ∨ digitB c = true)) : tokAt c r = if twoH c r = true then .inl (2, 0) else if oneB c = true then .inl (2, 0) else .inr 110 := by
  unfold tokAt
  rw [take_flen, flen_sign h]
  simp only [tokP]
  rw [if_neg (fun e => h (.inr (.inl e))), if_neg (fun e => h (.inr (.inr e)))]
  cases h2 : twoH c r
  · simp
    rfl
  · cases r with
    | nil => simp [twoH] at h2
    | cons b r =>
      have h3 : twoB c b = true := h2
      simp
      exact h3
theorem flen_blank (h : blankB c = true) : flen (c :: r) = 1 := by
  have h1 : ¬ (c = 35 ∨ letterB c = true ∨ digitB c = true) := by
    unfold blankB at h
    simp at h
    rcases h with (rfl | rfl) | rfl <;> decide
  rw [flen_sign h1]
  have h2 : twoH c r = false := by
    cases r with
    | nil => rfl
    | cons b r => exact twoB_blank (by unfold silentB; rw [h]; rfl)
  rw [h2]
  rfl
theorem lexF_tok' {f j kd v : Nat} {acc : List Tok} {p : ByteArray} (h : Piece p c r (j - pos)) (hj : pos ≤ j) (hl : l.drop pos = c :: r) (hs : silentB c = false) (ht : tokAt c r = .inl (kd, v)) : lexF f (l.drop j) j (acc ++ [⟨kd, c :: r.take (j - pos - 1), v, pos⟩]) = lexF (f + 1) (l.drop pos) pos acc := by
  rw [lexF_tok h hl hs ht, show pos + (j - pos) = j by omega]
theorem lexF_silent' {f j : Nat} {acc : List Tok} {p : ByteArray} (h : Piece p c r (j - pos)) (hj : pos ≤ j) (hl : l.drop pos = c :: r) (hs : silentB c = true) : lexF f (l.drop j) j acc = lexF (f + 1) (l.drop pos) pos acc := by
  rw [lexF_silent h hl hs, show pos + (j - pos) = j by omega]
set_option maxRecDepth 100000 in
set_option maxHeartbeats 25600000 in
theorem rlex_any (s : ByteArray) (W : World) : Calls Try.prog 10 #[.string s] W (RetL 31 s.data.toList W) := by
  obtain ⟨l, hl⟩ : ∃ l, s.data.toList = l := ⟨_, rfl⟩
  have hlen : l.length = s.size := by rw [← hl, list_size]
  rw [hl]
  by_cases h4 : 4096 < s.size
  · have HQ : Hid (lexS l = ([], 0, 111)) := Lib.hid (by unfold lexS; rw [if_pos (by omega)])
    clear hl hlen
    go_enter Try.func10, Try.ntmps10
    go_wp2_with fail
    go_ret3
    exact retL_none HQ.out (Below.refl _ _)
  · have h4' : s.size ≤ 4096 := by omega
    have HQ : Hid (lexS l = lexF (l.length + 1) l 0 []) := Lib.hid (by unfold lexS; rw [if_neg (by omega)])
    have HL := Lib.hid hl
    have HLen := Lib.hid hlen
    obtain ⟨i0, hi, hz0, hz1, hz2⟩ := info_parts rinfo
    have HI := Lib.hid (And.intro hi (And.intro hz0 (And.intro hz1 hz2)))
    clear hl hlen h4 hi hz0 hz1 hz2
    go_enter Try.func10, Try.ntmps10
    go_wp2_with fail
    go_loopw [5, 6] (fun v5 v6 wr => ∃ (pos fuel : Nat) (acc : List Tok), v6 = .int .i64 (pos : Int) ∧ wr.ownsRow W.heap.size 31 4 v5 acc.length (tcells acc) ∧ Below W.heap.size W wr ∧ pos ≤ s.size ∧ s.size < pos + fuel ∧ acc.length ≤ pos ∧ Hid (lexF fuel (l.drop pos) pos acc = lexS l)) (fun _ v6 _ => s.size - (RowKit.intOf v6).toNat)
    case atStart => exact ⟨0, l.length + 1, [], rfl, World.ownsRow_nil _ _ _ _, Below.refl _ _, Nat.zero_le _, by rw [HLen.out]; omega, Nat.le_refl _, Lib.hid (by rw [HQ.out]; rfl)⟩
    case round =>
      obtain ⟨pos, fuel, acc, rfl, hown, hbw, hps, hfu, hacc, HV⟩ := hrel
      by_cases hp : pos < s.size
      · obtain ⟨fuel, rfl⟩ : ∃ f', fuel = f' + 1 := ⟨fuel - 1, by omega⟩
        obtain ⟨c, r, hcr⟩ : ∃ c r, l.drop pos = c :: r := by
          have : pos < l.length := by rw [HLen.out]; exact hp
          exact ⟨_, _, drop_cons this⟩
        have hrl : r.length + 1 + pos = s.size := by
          have := congrArg List.length hcr
          rw [List.length_drop, HLen.out] at this
          simp only [List.length_cons] at this
          omega
        have hc : s[pos] = c := by
          have h2 : l.drop pos = s[pos] :: l.drop (pos + 1) := by
            rw [drop_cons (by rw [HLen.out]; exact hp)]
            congr 1
            rw [← get_list s pos hp]
            have := HL.out
            subst this
            rfl
          rw [hcr] at h2
          exact (List.cons.inj h2).1.symm
        have HP0 : Hid (∀ j, flen (c :: r) = j - pos → Piece (s.extract pos j) c r (j - pos)) := Lib.hid fun j hj => by
          have h1 := flen_pos c r
          have e : pos + (j - pos) = j := by omega
          have := piece_of (q := j - pos) HL.out hcr (by omega) (by rw [← hj]; exact flen_le c r) (fun _ => hj.symm)
          rw [e] at this
          exact this
        have HA : Hid (∀ j (h1 : pos + 1 ≤ j) (hq : j < s.size), ∃ b, s[j] = b ∧ r[j - pos - 1]? = some b) := Lib.hid fun j h1 hq => by
          obtain ⟨q, rfl⟩ : ∃ q, j = pos + q := ⟨j - pos, by omega⟩
          have := at_byte (q := q) HL.out hcr (by omega) hq
          rw [show pos + q - pos - 1 = q - 1 by omega]
          exact this
        have HCR := Lib.hid hcr
        have HB0 := Lib.hid hbw
        have HO0 := Lib.hid hown
        have HFl := Lib.hid (And.intro (flen_pos c r) (flen_le c r))
        clear hcr hown hbw
        have nat : ∀ n : UInt8, ((c.toNat : Int) == (n.toNat : Int)) = (c == n) := fun n => by
          rw [Bool.eq_iff_iff]
          simp
          exact ⟨fun h => UInt8.toNat_inj.1 (by omega), fun h => by rw [h]⟩
        have e32 : ((c.toNat : Int) == 32) = (c == 32) := nat 32
        have e9 : ((c.toNat : Int) == 9) = (c == 9) := nat 9
        have e10 : ((c.toNat : Int) == 10) = (c == 10) := nat 10
        have e35 : ((c.toNat : Int) == 35) = (c == 35) := nat 35
        clear nat
        cases hbl : blankB c
        · cases h35 : (c == 35)
          · have HS : Hid (silentB c = false) := Lib.hid (by unfold silentB; rw [hbl, h35]; rfl)
            rw [h35] at e35
            unfold blankB at hbl
            simp only [Bool.or_eq_false_iff] at hbl
            rw [hbl.1.1] at e32
            rw [hbl.1.2] at e9
            rw [hbl.2] at e10
            have n35 : c ≠ 35 := by simpa using h35
            clear hbl h35
            cases hlt : letterB c
            · cases hdg : digitB c
              · -- a sign
                have hno : ¬ (c = 35 ∨ letterB c = true ∨ digitB c = true) := by
                  rintro (h | h | h)
                  · exact n35 h
                  · rw [hlt] at h; cases h
                  · rw [hdg] at h; cases h
                have HTk : Hid (tokAt c r = if twoH c r = true then .inl (2, 0) else if oneB c = true then .inl (2, 0) else .inr 110) := Lib.hid (tokAt_sign hno)
                have HFs : Hid (flen (c :: r) = if twoH c r then 2 else 1) := Lib.hid (flen_sign hno)
                clear hno n35
                by_cases hp2 : pos + 2 ≤ s.size
                · obtain ⟨b, r', rfl⟩ : ∃ b r', r = b :: r' := by
                    cases r with
                    | nil => simp at hrl; omega
                    | cons b r' => exact ⟨b, r', rfl⟩
                  have HTw : Hid (∀ w, Calls Try.prog 21 #[.string (s.extract pos (pos + 2))] w (fun e w' => e = .returned (.bool (twoB c b)) ∧ w = w')) := Lib.hid fun w => two_any c b _ (by
                    rw [Lib.extract_data, HL.out, HCR.out, show pos + 2 - pos = 2 by omega]
                    rfl) w
                  have HTt : Hid (twoH c (b :: r') = twoB c b) := Lib.hid rfl
                  have g2 : decide ((pos : Int) + 2 ≤ (s.size : Int)) = true := decide_eq_true (by omega)
                  rw [← HTt.out] at HTw
                  clear HTt
                  cases h2 : twoH c (b :: r')
                  · rw [h2] at HTw
                    cases q1 : oneB c
                    · have HT := Lib.hid (HTk.out.trans (by rw [h2, q1]; rfl) : tokAt c (b :: r') = .inr 110)
                      clear h2
                      go_wp2_with (first
                        | (go_at_call 18; with_reducible refine (letter_any c _).mono ?_; rintro e w1 ⟨rfl, rfl⟩)
                        | (go_at_call 19; with_reducible refine (digit_any c _).mono ?_; rintro e w1 ⟨rfl, rfl⟩)
                        | (go_at_call 21; with_reducible refine (HTw.out _).mono ?_; rintro e w1 ⟨rfl, rfl⟩)
                        | (go_at_call 22; with_reducible refine (one_any c _).mono ?_; rintro e w1 ⟨rfl, rfl⟩))
                      go_ret3
                      exact retL_none (Eq.trans HV.out.symm (lexF_err HCR.out HS.out HT.out)) HB0.out
                    · have HT := Lib.hid (HTk.out.trans (by rw [h2, q1]; rfl) : tokAt c (b :: r') = .inl (2, 0))
                      have HJf : Hid (flen (c :: b :: r') = pos + 1 - pos) := Lib.hid (by rw [HFs.out, h2]; simp)
                      clear h2
                      go_wp2_with (first
                        | (go_at_call 18; with_reducible refine (letter_any c _).mono ?_; rintro e w1 ⟨rfl, rfl⟩)
                        | (go_at_call 19; with_reducible refine (digit_any c _).mono ?_; rintro e w1 ⟨rfl, rfl⟩)
                        | (go_at_call 21; with_reducible refine (HTw.out _).mono ?_; rintro e w1 ⟨rfl, rfl⟩)
                        | (go_at_call 22; with_reducible refine (one_any c _).mono ?_; rintro e w1 ⟨rfl, rfl⟩)
                        | (at_builtin; refine wpList_append_own _ rfl _ _ 27 rfl W.heap.size 31 i0 (.agg #[.int .i64 0, .string ⟨#[]⟩, .int .i64 0, .int .i64 0]) 4 40 Try.underlying27 HI.out.1 HI.out.2.1 HI.out.2.2.1 HI.out.2.2.2 rfl (by decide) _ _ _ rfl (HO0.out.alloc _) ⟨wr.heap.size, 0, none⟩ 1 1 [.int .i64 2, .string (s.extract pos (pos + 1)), .int .i64 0, .int .i64 (pos : Int)] rfl rfl (news_quad2 _ rfl _ _ _ _ _) (quad_one _ _ _ _) (by unfold maxLen; omega) (by omega) (by have := HB0.out.size; simp; omega) ?_; intro v' w4 hown' hgrow4 _; have O4 := Lib.hid hown'; have B4 := Lib.hid (Below.grown (HB0.out.alloc HB0.out.size _) hgrow4 (by have := HB0.out.size; simp; omega) (fun j hj => (HO0.out.lt _ hj).1)); clear hown' hgrow4))
                      go_roundw
                      case rel => exact ⟨(pos + 1), fuel, acc ++ [⟨2, c :: (b :: r').take ((pos + 1) - pos - 1), 0, pos⟩], by go_num, by rw [List.length_append, tcells_snoc, ← ba_list (HP0.out _ HJf.out).hp]; exact O4.out, B4.out, by omega, by omega, by rw [List.length_append]; simp; omega, Lib.hid (by rw [← HV.out]; exact lexF_tok' (HP0.out _ HJf.out) (by omega) HCR.out HS.out HT.out)⟩
                      case measure => simp [RowKit.intOf]; omega
                  · rw [h2] at HTw
                    have HT := Lib.hid (HTk.out.trans (by rw [h2]; rfl) : tokAt c (b :: r') = .inl (2, 0))
                    have HJf : Hid (flen (c :: b :: r') = pos + 2 - pos) := Lib.hid (by rw [HFs.out, h2]; simp)
                    clear h2
                    go_wp2_with (first
                      | (go_at_call 18; with_reducible refine (letter_any c _).mono ?_; rintro e w1 ⟨rfl, rfl⟩)
                      | (go_at_call 19; with_reducible refine (digit_any c _).mono ?_; rintro e w1 ⟨rfl, rfl⟩)
                      | (go_at_call 21; with_reducible refine (HTw.out _).mono ?_; rintro e w1 ⟨rfl, rfl⟩)
                      | (at_builtin; refine wpList_append_own _ rfl _ _ 27 rfl W.heap.size 31 i0 (.agg #[.int .i64 0, .string ⟨#[]⟩, .int .i64 0, .int .i64 0]) 4 40 Try.underlying27 HI.out.1 HI.out.2.1 HI.out.2.2.1 HI.out.2.2.2 rfl (by decide) _ _ _ rfl (HO0.out.alloc _) ⟨wr.heap.size, 0, none⟩ 1 1 [.int .i64 2, .string (s.extract pos (pos + 2)), .int .i64 0, .int .i64 (pos : Int)] rfl rfl (news_quad2 _ rfl _ _ _ _ _) (quad_one _ _ _ _) (by unfold maxLen; omega) (by omega) (by have := HB0.out.size; simp; omega) ?_; intro v' w4 hown' hgrow4 _; have O4 := Lib.hid hown'; have B4 := Lib.hid (Below.grown (HB0.out.alloc HB0.out.size _) hgrow4 (by have := HB0.out.size; simp; omega) (fun j hj => (HO0.out.lt _ hj).1)); clear hown' hgrow4))
                    go_roundw
                    case rel => exact ⟨(pos + 2), fuel, acc ++ [⟨2, c :: (b :: r').take ((pos + 2) - pos - 1), 0, pos⟩], by go_num, by rw [List.length_append, tcells_snoc, ← ba_list (HP0.out _ HJf.out).hp]; exact O4.out, B4.out, by omega, by omega, by rw [List.length_append]; simp; omega, Lib.hid (by rw [← HV.out]; exact lexF_tok' (HP0.out _ HJf.out) (by omega) HCR.out HS.out HT.out)⟩
                    case measure => simp [RowKit.intOf]; omega
                · have g2 : decide ((pos : Int) + 2 ≤ (s.size : Int)) = false := decide_eq_false (by omega)
                  have hr0 : r = [] := by
                    cases r with
                    | nil => rfl
                    | cons b r' => simp at hrl; omega
                  have h2 : twoH c r = false := by rw [hr0]; rfl
                  have HTw : Hid (∀ w : World, True → Calls Try.prog 21 #[.string (s.extract pos (pos + 2))] w (fun e w' => e = .returned (.bool false) ∧ w = w') → True) := Lib.hid fun _ _ _ => trivial
                  clear hr0 hp2 HTw
                  cases q1 : oneB c
                  · have HT := Lib.hid (HTk.out.trans (by rw [h2, q1]; rfl) : tokAt c r = .inr 110)
                    clear h2
                    go_wp2_with (first
                      | (go_at_call 18; with_reducible refine (letter_any c _).mono ?_; rintro e w1 ⟨rfl, rfl⟩)
                      | (go_at_call 19; with_reducible refine (digit_any c _).mono ?_; rintro e w1 ⟨rfl, rfl⟩)
                      | (go_at_call 22; with_reducible refine (one_any c _).mono ?_; rintro e w1 ⟨rfl, rfl⟩))
                    go_ret3
                    exact retL_none (Eq.trans HV.out.symm (lexF_err HCR.out HS.out HT.out)) HB0.out
                  · have HT := Lib.hid (HTk.out.trans (by rw [h2, q1]; rfl) : tokAt c r = .inl (2, 0))
                    have HJf : Hid (flen (c :: r) = pos + 1 - pos) := Lib.hid (by rw [HFs.out, h2]; simp)
                    clear h2
                    go_wp2_with (first
                      | (go_at_call 18; with_reducible refine (letter_any c _).mono ?_; rintro e w1 ⟨rfl, rfl⟩)
                      | (go_at_call 19; with_reducible refine (digit_any c _).mono ?_; rintro e w1 ⟨rfl, rfl⟩)
                      | (go_at_call 22; with_reducible refine (one_any c _).mono ?_; rintro e w1 ⟨rfl, rfl⟩)
                      | (at_builtin; refine wpList_append_own _ rfl _ _ 27 rfl W.heap.size 31 i0 (.agg #[.int .i64 0, .string ⟨#[]⟩, .int .i64 0, .int .i64 0]) 4 40 Try.underlying27 HI.out.1 HI.out.2.1 HI.out.2.2.1 HI.out.2.2.2 rfl (by decide) _ _ _ rfl (HO0.out.alloc _) ⟨wr.heap.size, 0, none⟩ 1 1 [.int .i64 2, .string (s.extract pos (pos + 1)), .int .i64 0, .int .i64 (pos : Int)] rfl rfl (news_quad2 _ rfl _ _ _ _ _) (quad_one _ _ _ _) (by unfold maxLen; omega) (by omega) (by have := HB0.out.size; simp; omega) ?_; intro v' w4 hown' hgrow4 _; have O4 := Lib.hid hown'; have B4 := Lib.hid (Below.grown (HB0.out.alloc HB0.out.size _) hgrow4 (by have := HB0.out.size; simp; omega) (fun j hj => (HO0.out.lt _ hj).1)); clear hown' hgrow4))
                    go_roundw
                    case rel => exact ⟨(pos + 1), fuel, acc ++ [⟨2, c :: r.take ((pos + 1) - pos - 1), 0, pos⟩], by go_num, by rw [List.length_append, tcells_snoc, ← ba_list (HP0.out _ HJf.out).hp]; exact O4.out, B4.out, by omega, by omega, by rw [List.length_append]; simp; omega, Lib.hid (by rw [← HV.out]; exact lexF_tok' (HP0.out _ HJf.out) (by omega) HCR.out HS.out HT.out)⟩
                    case measure => simp [RowKit.intOf]; omega
              · -- a number
                have hon : onB c = digitB := by unfold onB; rw [if_neg n35, if_neg (by rw [hlt]; simp)]
                have n35 := n35
                have HM : Hid (∀ j b, pos + 1 ≤ j → r[j - pos - 1]? = some b → j - pos ≤ flen (c :: r) → (onB c b = true → j + 1 - pos ≤ flen (c :: r)) ∧ (onB c b = false → flen (c :: r) = j - pos)) := Lib.hid fun j b h1 hb hq => by
                  have := flen_more (q := j - pos) (b := b) (.inr (.inr hdg)) (by omega) hq hb
                  rw [show j + 1 - pos = j - pos + 1 by omega]
                  exact this
                rw [hon] at HM
                have HE : Hid (∀ j, s.size ≤ j → j ≤ s.size → j - pos ≤ flen (c :: r) → flen (c :: r) = j - pos) := Lib.hid fun j h1 h2 h3 => flen_end (by omega) h3
                have F1 := HFl.out.1
                have HTk : Hid (tokAt c r = match numL (c :: r.take (flen (c :: r) - 1)) with | some v => .inl (1, v) | none => .inr 111) := Lib.hid (tokAt_digit hdg)
                clear hon n35
                go_wp2_with (first
                  | (go_at_call 18; with_reducible refine (letter_any c _).mono ?_; rintro e w1 ⟨rfl, rfl⟩)
                  | (go_at_call 19; with_reducible refine (digit_any c _).mono ?_; rintro e w1 ⟨rfl, rfl⟩))
                go_loop [8] (fun i => ∃ j : Nat, i = .int .i64 (j : Int) ∧ pos + 1 ≤ j ∧ j ≤ s.size ∧ Hid (j - pos ≤ flen (c :: r))) (fun i => s.size - (RowKit.intOf i).toNat)
                case atStart => exact ⟨pos + 1, by go_num, Nat.le_refl _, by omega, Lib.hid (by omega)⟩
                case round =>
                  obtain ⟨j, rfl, hj1, hj2, HJ⟩ := hrel
                  by_cases hj : j < s.size
                  · obtain ⟨b, hb, hrb⟩ := HA.out j (by omega) hj
                    have HMj := Lib.hid (HM.out j b (by omega) hrb HJ.out)
                    clear hrb
                    cases q2 : digitB b
                    · have HJf := Lib.hid (HMj.out.2 q2)
                      go_wp2_with (go_at_call 19; with_reducible refine (digit_any b _).mono ?_; rintro e w1 ⟨rfl, rfl⟩)
                      have HNu : Hid (∀ w, Calls Try.prog 20 #[.string (s.extract pos j)] w (fun e w' => (∃ x : Int, e = .returned (.tuple #[.int .i64 x, .bool (numL (c :: r.take (j - pos - 1))).isSome]) ∧ ∀ v, numL (c :: r.take (j - pos - 1)) = some v → x = (v : Int)) ∧ w = w')) := Lib.hid fun w => by
                        have hP := HP0.out j HJf.out
                        have := number_any (s.extract pos j) (by rw [ByteArray.size_extract]; omega) (hP.digits hdg) w
                        rw [hP.hp] at this
                        exact this
                      have HTk' : Hid (tokAt c r = match numL (c :: r.take (j - pos - 1)) with | some v => .inl (1, v) | none => .inr 111) := Lib.hid (by have := HTk.out; rw [HJf.out] at this; exact this)
                      cases hnu : numL (c :: r.take (j - pos - 1)) with
                      | none =>
                        rw [hnu] at HNu HTk'
                        have HT := Lib.hid (HTk'.out : tokAt c r = .inr 111)
                        clear hnu
                        go_wp2_with (go_at_call 20; with_reducible refine (HNu.out _).mono ?_; rintro e w1 ⟨⟨x, rfl, hx⟩, rfl⟩)
                        go_ret3
                        exact retL_none (Eq.trans HV.out.symm (lexF_err HCR.out HS.out HT.out)) HB0.out
                      | some v =>
                        rw [hnu] at HNu HTk'
                        have HT := Lib.hid (HTk'.out : tokAt c r = .inl (1, v))
                        have hv := (tokAt_kind HT.out).2
                        clear hnu
                        go_wp2_with (first
                          | (go_at_call 20; with_reducible refine (HNu.out _).mono ?_; rintro e w1 ⟨⟨x, rfl, hx⟩, rfl⟩; obtain rfl := hx v rfl)
                          | (at_builtin; refine wpList_append_own _ rfl _ _ 27 rfl W.heap.size 31 i0 (.agg #[.int .i64 0, .string ⟨#[]⟩, .int .i64 0, .int .i64 0]) 4 40 Try.underlying27 HI.out.1 HI.out.2.1 HI.out.2.2.1 HI.out.2.2.2 rfl (by decide) _ _ _ rfl (HO0.out.alloc _) ⟨wr.heap.size, 0, none⟩ 1 1 [.int .i64 1, .string (s.extract pos j), .int .i64 (v : Int), .int .i64 (pos : Int)] rfl rfl (news_quad2 _ rfl _ _ _ _ _) (quad_one _ _ _ _) (by unfold maxLen; omega) (by omega) (by have := HB0.out.size; simp; omega) ?_; intro v' w4 hown' hgrow4 _; have O4 := Lib.hid hown'; have B4 := Lib.hid (Below.grown (HB0.out.alloc HB0.out.size _) hgrow4 (by have := HB0.out.size; simp; omega) (fun j hj => (HO0.out.lt _ hj).1)); clear hown' hgrow4))
                        go_roundw
                        case rel => exact ⟨j, fuel, acc ++ [⟨1, c :: r.take (j - pos - 1), v, pos⟩], by go_num, by rw [List.length_append, tcells_snoc, ← ba_list (HP0.out _ HJf.out).hp]; exact O4.out, B4.out, by omega, by omega, by rw [List.length_append]; simp; omega, Lib.hid (by rw [← HV.out]; exact lexF_tok' (HP0.out _ HJf.out) (by omega) HCR.out HS.out HT.out)⟩
                        case measure => simp [RowKit.intOf]; omega
                    · have HN := Lib.hid (HMj.out.1 q2)
                      go_wp2_with (go_at_call 19; with_reducible refine (digit_any b _).mono ?_; rintro e w1 ⟨rfl, rfl⟩)
                      exact ⟨⟨j + 1, by go_num, by omega, by omega, HN⟩, by simp [RowKit.intOf]; omega⟩
                  · have hj3 : (s.size : Int) ≤ (j : Int) := by omega
                    have HJf := Lib.hid (HE.out j (by omega) hj2 HJ.out)
                    clear hj
                    go_wp2_with fail
                    have HNu : Hid (∀ w, Calls Try.prog 20 #[.string (s.extract pos j)] w (fun e w' => (∃ x : Int, e = .returned (.tuple #[.int .i64 x, .bool (numL (c :: r.take (j - pos - 1))).isSome]) ∧ ∀ v, numL (c :: r.take (j - pos - 1)) = some v → x = (v : Int)) ∧ w = w')) := Lib.hid fun w => by
                      have hP := HP0.out j HJf.out
                      have := number_any (s.extract pos j) (by rw [ByteArray.size_extract]; omega) (hP.digits hdg) w
                      rw [hP.hp] at this
                      exact this
                    have HTk' : Hid (tokAt c r = match numL (c :: r.take (j - pos - 1)) with | some v => .inl (1, v) | none => .inr 111) := Lib.hid (by have := HTk.out; rw [HJf.out] at this; exact this)
                    cases hnu : numL (c :: r.take (j - pos - 1)) with
                    | none =>
                      rw [hnu] at HNu HTk'
                      have HT := Lib.hid (HTk'.out : tokAt c r = .inr 111)
                      clear hnu
                      go_wp2_with (go_at_call 20; with_reducible refine (HNu.out _).mono ?_; rintro e w1 ⟨⟨x, rfl, hx⟩, rfl⟩)
                      go_ret3
                      exact retL_none (Eq.trans HV.out.symm (lexF_err HCR.out HS.out HT.out)) HB0.out
                    | some v =>
                      rw [hnu] at HNu HTk'
                      have HT := Lib.hid (HTk'.out : tokAt c r = .inl (1, v))
                      have hv := (tokAt_kind HT.out).2
                      clear hnu
                      go_wp2_with (first
                        | (go_at_call 20; with_reducible refine (HNu.out _).mono ?_; rintro e w1 ⟨⟨x, rfl, hx⟩, rfl⟩; obtain rfl := hx v rfl)
                        | (at_builtin; refine wpList_append_own _ rfl _ _ 27 rfl W.heap.size 31 i0 (.agg #[.int .i64 0, .string ⟨#[]⟩, .int .i64 0, .int .i64 0]) 4 40 Try.underlying27 HI.out.1 HI.out.2.1 HI.out.2.2.1 HI.out.2.2.2 rfl (by decide) _ _ _ rfl (HO0.out.alloc _) ⟨wr.heap.size, 0, none⟩ 1 1 [.int .i64 1, .string (s.extract pos j), .int .i64 (v : Int), .int .i64 (pos : Int)] rfl rfl (news_quad2 _ rfl _ _ _ _ _) (quad_one _ _ _ _) (by unfold maxLen; omega) (by omega) (by have := HB0.out.size; simp; omega) ?_; intro v' w4 hown' hgrow4 _; have O4 := Lib.hid hown'; have B4 := Lib.hid (Below.grown (HB0.out.alloc HB0.out.size _) hgrow4 (by have := HB0.out.size; simp; omega) (fun j hj => (HO0.out.lt _ hj).1)); clear hown' hgrow4))
                      go_roundw
                      case rel => exact ⟨j, fuel, acc ++ [⟨1, c :: r.take (j - pos - 1), v, pos⟩], by go_num, by rw [List.length_append, tcells_snoc, ← ba_list (HP0.out _ HJf.out).hp]; exact O4.out, B4.out, by omega, by omega, by rw [List.length_append]; simp; omega, Lib.hid (by rw [← HV.out]; exact lexF_tok' (HP0.out _ HJf.out) (by omega) HCR.out HS.out HT.out)⟩
                      case measure => simp [RowKit.intOf]; omega
            · -- a name
              have hon : onB c = nameB := by unfold onB; rw [if_neg n35, if_pos hlt]
              have n35 := n35
              have HM : Hid (∀ j b, pos + 1 ≤ j → r[j - pos - 1]? = some b → j - pos ≤ flen (c :: r) → (onB c b = true → j + 1 - pos ≤ flen (c :: r)) ∧ (onB c b = false → flen (c :: r) = j - pos)) := Lib.hid fun j b h1 hb hq => by
                have := flen_more (q := j - pos) (b := b) (.inr (.inl hlt)) (by omega) hq hb
                rw [show j + 1 - pos = j - pos + 1 by omega]
                exact this
              rw [hon] at HM
              have HE : Hid (∀ j, s.size ≤ j → j ≤ s.size → j - pos ≤ flen (c :: r) → flen (c :: r) = j - pos) := Lib.hid fun j h1 h2 h3 => flen_end (by omega) h3
              have F1 := HFl.out.1
              have HTk : Hid (tokAt c r = if 16 < flen (c :: r) then .inr 111 else .inl (0, 0)) := Lib.hid (tokAt_letter hlt)
              clear hon n35
              go_wp2_with (go_at_call 18; with_reducible refine (letter_any c _).mono ?_; rintro e w1 ⟨rfl, rfl⟩)
              go_loop [8] (fun i => ∃ j : Nat, i = .int .i64 (j : Int) ∧ pos + 1 ≤ j ∧ j ≤ s.size ∧ Hid (j - pos ≤ flen (c :: r))) (fun i => s.size - (RowKit.intOf i).toNat)
              case atStart => exact ⟨pos + 1, by go_num, Nat.le_refl _, by omega, Lib.hid (by omega)⟩
              case round =>
                obtain ⟨j, rfl, hj1, hj2, HJ⟩ := hrel
                by_cases hj : j < s.size
                · obtain ⟨b, hb, hrb⟩ := HA.out j (by omega) hj
                  have HMj := Lib.hid (HM.out j b (by omega) hrb HJ.out)
                  have nat : ((b.toNat : Int) == 95) = (b == 95) := by
                    rw [Bool.eq_iff_iff]
                    simp
                    exact ⟨fun h => UInt8.toNat_inj.1 (by rw [show b.toNat = 95 by omega]; rfl), fun h => by rw [h]; rfl⟩
                  have HNm : Hid (nameB b = ((letterB b || digitB b) || b == 95)) := Lib.hid rfl
                  clear hrb
                  cases q1 : letterB b
                  · cases q2 : digitB b
                    · cases q3 : (b == 95)
                      · rw [q3] at nat
                        have HJf := Lib.hid (HMj.out.2 (by rw [HNm.out, q1, q2, q3]; rfl))
                        clear q3
                        by_cases h16 : 16 < j - pos
                        · have HT := Lib.hid ((HTk.out).trans (by rw [HJf.out, if_pos h16]) : tokAt c r = .inr 111)
                          have g16 : (16 : Int) < (j : Int) - (pos : Int) := by omega
                          go_wp2_with (first | (go_at_call 18; with_reducible refine (letter_any b _).mono ?_; rintro e w1 ⟨rfl, rfl⟩) | (go_at_call 19; with_reducible refine (digit_any b _).mono ?_; rintro e w1 ⟨rfl, rfl⟩))
                          go_ret3
                          exact retL_none (Eq.trans HV.out.symm (lexF_err HCR.out HS.out HT.out)) HB0.out
                        · have HT := Lib.hid ((HTk.out).trans (by rw [HJf.out, if_neg h16]) : tokAt c r = .inl (0, 0))
                          have g16 : (j : Int) - (pos : Int) ≤ 16 := by omega
                          go_wp2_with (first | (go_at_call 18; with_reducible refine (letter_any b _).mono ?_; rintro e w1 ⟨rfl, rfl⟩) | (go_at_call 19; with_reducible refine (digit_any b _).mono ?_; rintro e w1 ⟨rfl, rfl⟩) | (at_builtin; refine wpList_append_own _ rfl _ _ 27 rfl W.heap.size 31 i0 (.agg #[.int .i64 0, .string ⟨#[]⟩, .int .i64 0, .int .i64 0]) 4 40 Try.underlying27 HI.out.1 HI.out.2.1 HI.out.2.2.1 HI.out.2.2.2 rfl (by decide) _ _ _ rfl (HO0.out.alloc _) ⟨wr.heap.size, 0, none⟩ 1 1 [.int .i64 0, .string (s.extract pos j), .int .i64 0, .int .i64 (pos : Int)] rfl rfl (news_quad2 _ rfl _ _ _ _ _) (quad_one _ _ _ _) (by unfold maxLen; omega) (by omega) (by have := HB0.out.size; simp; omega) ?_; intro v' w4 hown' hgrow4 _; have O4 := Lib.hid hown'; have B4 := Lib.hid (Below.grown (HB0.out.alloc HB0.out.size _) hgrow4 (by have := HB0.out.size; simp; omega) (fun j hj => (HO0.out.lt _ hj).1)); clear hown' hgrow4))
                          go_roundw
                          case rel => exact ⟨j, fuel, acc ++ [⟨0, c :: r.take (j - pos - 1), 0, pos⟩], by go_num, by rw [List.length_append, tcells_snoc, ← ba_list (HP0.out _ HJf.out).hp]; exact O4.out, B4.out, by omega, by omega, by rw [List.length_append]; simp; omega, Lib.hid (by rw [← HV.out]; exact lexF_tok' (HP0.out _ HJf.out) (by omega) HCR.out HS.out HT.out)⟩
                          case measure => simp [RowKit.intOf]; omega
                      · rw [q3] at nat
                        have HN := Lib.hid (HMj.out.1 (by rw [HNm.out, q1, q2, q3]; rfl))
                        clear q3
                        go_wp2_with (first
                          | (go_at_call 18; with_reducible refine (letter_any b _).mono ?_; rintro e w1 ⟨rfl, rfl⟩)
                          | (go_at_call 19; with_reducible refine (digit_any b _).mono ?_; rintro e w1 ⟨rfl, rfl⟩))
                        exact ⟨⟨j + 1, by go_num, by omega, by omega, HN⟩, by simp [RowKit.intOf]; omega⟩
                    · have HN := Lib.hid (HMj.out.1 (by rw [HNm.out, q1, q2]; rfl))
                      go_wp2_with (first
                        | (go_at_call 18; with_reducible refine (letter_any b _).mono ?_; rintro e w1 ⟨rfl, rfl⟩)
                        | (go_at_call 19; with_reducible refine (digit_any b _).mono ?_; rintro e w1 ⟨rfl, rfl⟩))
                      exact ⟨⟨j + 1, by go_num, by omega, by omega, HN⟩, by simp [RowKit.intOf]; omega⟩
                  · have HN := Lib.hid (HMj.out.1 (by rw [HNm.out, q1]; rfl))
                    go_wp2_with (first
                      | (go_at_call 18; with_reducible refine (letter_any b _).mono ?_; rintro e w1 ⟨rfl, rfl⟩)
                      | (go_at_call 19; with_reducible refine (digit_any b _).mono ?_; rintro e w1 ⟨rfl, rfl⟩))
                    exact ⟨⟨j + 1, by go_num, by omega, by omega, HN⟩, by simp [RowKit.intOf]; omega⟩
                · have hj3 : (s.size : Int) ≤ (j : Int) := by omega
                  have HJf := Lib.hid (HE.out j (by omega) hj2 HJ.out)
                  clear hj
                  by_cases h16 : 16 < j - pos
                  · have HT := Lib.hid ((HTk.out).trans (by rw [HJf.out, if_pos h16]) : tokAt c r = .inr 111)
                    have g16 : (16 : Int) < (j : Int) - (pos : Int) := by omega
                    go_wp2_with fail
                    go_ret3
                    exact retL_none (Eq.trans HV.out.symm (lexF_err HCR.out HS.out HT.out)) HB0.out
                  · have HT := Lib.hid ((HTk.out).trans (by rw [HJf.out, if_neg h16]) : tokAt c r = .inl (0, 0))
                    have g16 : (j : Int) - (pos : Int) ≤ 16 := by omega
                    go_wp2_with (at_builtin; refine wpList_append_own _ rfl _ _ 27 rfl W.heap.size 31 i0 (.agg #[.int .i64 0, .string ⟨#[]⟩, .int .i64 0, .int .i64 0]) 4 40 Try.underlying27 HI.out.1 HI.out.2.1 HI.out.2.2.1 HI.out.2.2.2 rfl (by decide) _ _ _ rfl (HO0.out.alloc _) ⟨wr.heap.size, 0, none⟩ 1 1 [.int .i64 0, .string (s.extract pos j), .int .i64 0, .int .i64 (pos : Int)] rfl rfl (news_quad2 _ rfl _ _ _ _ _) (quad_one _ _ _ _) (by unfold maxLen; omega) (by omega) (by have := HB0.out.size; simp; omega) ?_; intro v' w4 hown' hgrow4 _; have O4 := Lib.hid hown'; have B4 := Lib.hid (Below.grown (HB0.out.alloc HB0.out.size _) hgrow4 (by have := HB0.out.size; simp; omega) (fun j hj => (HO0.out.lt _ hj).1)); clear hown' hgrow4)
                    go_roundw
                    case rel => exact ⟨j, fuel, acc ++ [⟨0, c :: r.take (j - pos - 1), 0, pos⟩], by go_num, by rw [List.length_append, tcells_snoc, ← ba_list (HP0.out _ HJf.out).hp]; exact O4.out, B4.out, by omega, by omega, by rw [List.length_append]; simp; omega, Lib.hid (by rw [← HV.out]; exact lexF_tok' (HP0.out _ HJf.out) (by omega) HCR.out HS.out HT.out)⟩
                    case measure => simp [RowKit.intOf]; omega
          · -- a remark
            have HS : Hid (silentB c = true) := Lib.hid (by unfold silentB; rw [h35]; simp)
            rw [h35] at e35
            have c35 : c = 35 := by simpa using h35
            have hon : onB c = (· != 10) := by unfold onB; rw [if_pos c35]
            unfold blankB at hbl
            simp only [Bool.or_eq_false_iff] at hbl
            rw [hbl.1.1] at e32
            rw [hbl.1.2] at e9
            rw [hbl.2] at e10
            have HM : Hid (∀ j b, pos + 1 ≤ j → r[j - pos - 1]? = some b → j - pos ≤ flen (c :: r) → ((b != 10) = true → j + 1 - pos ≤ flen (c :: r)) ∧ ((b != 10) = false → flen (c :: r) = j - pos)) := Lib.hid fun j b h1 hb hq => by
              have := flen_more (q := j - pos) (b := b) (.inl c35) (by omega) hq hb
              rw [hon] at this
              rw [show j + 1 - pos = j - pos + 1 by omega]
              exact this
            have HE : Hid (∀ j, s.size ≤ j → j ≤ s.size → j - pos ≤ flen (c :: r) → flen (c :: r) = j - pos) := Lib.hid fun j h1 h2 h3 => flen_end (by omega) h3
            have HR : Hid (∀ j, pos + 1 ≤ j → flen (c :: r) = j - pos → lexF fuel (l.drop j) j acc = lexS l) := Lib.hid fun j h1 h2 => by rw [← HV.out]; exact lexF_silent' (HP0.out _ h2) (by omega) HCR.out HS.out
            have F1 := HFl.out.1
            clear hbl h35 hon c35
            go_wp2_with fail
            go_loop [6] (fun i => ∃ j : Nat, i = .int .i64 (j : Int) ∧ pos ≤ j ∧ j ≤ s.size ∧ Hid (j - pos ≤ flen (c :: r))) (fun i => s.size - (RowKit.intOf i).toNat)
            case atStart => exact ⟨pos, rfl, Nat.le_refl _, by omega, Lib.hid (by omega)⟩
            case round =>
              obtain ⟨j, rfl, hj1, hj2, HJ⟩ := hrel
              by_cases hjp : j = pos
              · subst hjp
                have n10 : ((c.toNat : Int) != 10) = true := by rw [bne, e10]; rfl
                go_wp2_with fail
                exact ⟨⟨j + 1, by go_num, by omega, by omega, Lib.hid (by omega)⟩, by simp [RowKit.intOf]; omega⟩
              · by_cases hj : j < s.size
                · obtain ⟨b, hb, hrb⟩ := HA.out j (by omega) hj
                  have HMj := Lib.hid (HM.out j b (by omega) hrb HJ.out)
                  have nat : ((b.toNat : Int) == 10) = (b == 10) := by
                    rw [Bool.eq_iff_iff]
                    simp
                    exact ⟨fun h => UInt8.toNat_inj.1 (by rw [show b.toNat = 10 by omega]; rfl), fun h => by rw [h]; rfl⟩
                  cases hb10 : (b == 10)
                  · have n10 : ((b.toNat : Int) != 10) = true := by rw [bne, nat, hb10]; rfl
                    rw [hb10] at nat
                    have HN := Lib.hid (HMj.out.1 (by rw [bne, hb10]; rfl))
                    clear hb10 hrb
                    go_wp2_with fail
                    exact ⟨⟨j + 1, by go_num, by omega, by omega, HN⟩, by simp [RowKit.intOf]; omega⟩
                  · have n10 : ((b.toNat : Int) != 10) = false := by rw [bne, nat, hb10]; rfl
                    rw [hb10] at nat
                    have HN := Lib.hid (HR.out j (by omega) (HMj.out.2 (by rw [bne, hb10]; rfl)))
                    clear hb10 hrb
                    go_wp2_with fail
                    go_roundw
                    case rel => exact ⟨j, fuel, acc, rfl, HO0.out, HB0.out, by omega, by omega, by omega, HN⟩
                    case measure => simp [RowKit.intOf]; omega
                · have hj3 : (s.size : Int) ≤ (j : Int) := by omega
                  have HN := Lib.hid (HR.out j (by omega) (HE.out j (by omega) hj2 HJ.out))
                  clear hj
                  go_wp2_with fail
                  go_roundw
                  case rel => exact ⟨j, fuel, acc, rfl, HO0.out, HB0.out, by omega, by omega, by omega, HN⟩
                  case measure => simp [RowKit.intOf]; omega
        · -- a blank
          have HS : Hid (silentB c = true) := Lib.hid (by unfold silentB; rw [hbl]; rfl)
          have HF : Hid (flen (c :: r) = pos + 1 - pos) := Lib.hid (by rw [flen_blank hbl]; omega)
          have HB := Lib.hid hbl
          have HR : Hid (lexF fuel (l.drop (pos + 1)) (pos + 1) acc = lexS l) := Lib.hid (by rw [← HV.out]; exact lexF_silent' (HP0.out _ HF.out) (by omega) HCR.out HS.out)
          clear hbl e35
          cases q1 : (c == 32) <;> cases q2 : (c == 9) <;> cases q3 : (c == 10)
          · have := HB.out
            unfold blankB at this
            rw [q1, q2, q3] at this
            cases this
          all_goals rw [q1] at e32
          all_goals rw [q2] at e9
          all_goals rw [q3] at e10
          all_goals clear q1 q2 q3
          all_goals go_wp2_with fail
          all_goals go_roundw
          all_goals first
            | (case rel => exact ⟨pos + 1, fuel, acc, by go_num, HO0.out, HB0.out, by omega, by omega, by omega, HR⟩)
            | (case measure => simp [RowKit.intOf]; omega)
      · have hpe : pos = s.size := by omega
        have HE : Hid (lexS l = (acc, pos, 0)) := Lib.hid (by rw [← HV.out]; exact lexF_end (by rw [HLen.out]; omega))
        have hp2 : (s.size : Int) ≤ (pos : Int) := by omega
        clear HV hp
        go_wp2_with fail
        go_ret3
        unfold RetL
        rw [HE.out]
        exact ⟨_, by rw [hpe]; rfl, hown, hbw⟩
end
end Go.Proofs.Ytlkbapcienjdcaa
