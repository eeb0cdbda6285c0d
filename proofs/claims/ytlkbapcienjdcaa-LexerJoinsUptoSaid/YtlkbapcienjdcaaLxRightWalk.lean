/- The lexer layer: the law LexerRight. -/
import Derived.Test.YtlkbapcienjdcaaLxPlacesWalk
namespace Go.Proofs.Ytlkbapcienjdcaa
open Go.RowKit
section
variable {W : World}
theorem lexF_none (f : Nat) : ∀ (l : List UInt8) (pos : Nat) (acc ts : List Tok) (n e : Nat), lexF f l pos acc = (ts, n, e) → e ≠ 0 → ts = [] := by
  induction f with
  | zero => intro l pos acc ts n e h he; simp only [lexF, Prod.mk.injEq] at h; omega
  | succ f ih =>
    intro l pos acc ts n e h he
    cases l with
    | nil => simp only [lexF, Prod.mk.injEq] at h; omega
    | cons c r =>
      simp only [lexF] at h
      split at h
      · exact ih _ _ _ _ _ _ h he
      · split at h
        · exact ih _ _ _ _ _ _ h he
        · simp only [Prod.mk.injEq] at h; exact h.1.symm
theorem lexS_none {l : List UInt8} {ts : List Tok} {n e : Nat} (h : lexS l = (ts, n, e)) (he : e ≠ 0) : ts = [] := by
  unfold lexS at h
  split at h
  · simp only [Prod.mk.injEq] at h; exact h.1.symm
  · exact lexF_none _ _ _ _ _ _ _ h he
theorem right_is {s : ByteArray} {τ : Tok} {m : Nat} {kd n : Int} (h : lexS s.data.toList = ([τ], m, 0)) : rightB kd s n = (((τ.kind : Int) == kd) && (((⟨τ.text.toArray⟩ : ByteArray).toList == s.toList) && ((τ.n : Int) == n))) := by
  obtain ⟨⟨-, h2, -⟩, -⟩ := lexS_chain h
  have e : rightB kd s n = sameT τ.kind ⟨τ.text.toArray⟩ τ.n τ.at_ kd s n 0 := by
    unfold rightB
    rw [h]
  rw [e]
  unfold sameT
  cases q : ((⟨τ.text.toArray⟩ : ByteArray).toList == s.toList)
  · simp
  · have q' := eq_of_beq q
    rw [ByteArray.toList_eq, ByteArray.toList_eq] at q'
    have : τ.at_ = 0 := by
      have q2 : τ.text = s.data.toList := q'
      rw [q2] at h2
      omega
    rw [this]
    simp
set_option maxRecDepth 100000 in
set_option maxHeartbeats 12800000 in
theorem lexer_right_walk (kd : Int) (s : ByteArray) (n a : Int) (W : World) : Calls Try.prog 5 #[tokV kd s n a] W (fun e w' => e = .returned (.bool true) ∧ Below W.heap.size W w') := by
  have HAl : Hid (∀ w, Calls Try.prog 8 #[] w (fun e w' => e = .returned (.bool true) ∧ Below w.heap.size w w')) := Lib.hid alive_any
  have HK := Lib.hid (Blk.new W 31 #[.int .i64 kd, .string s, .int .i64 n, .int .i64 a])
  have HB0 : Hid (Below W.heap.size W (W.alloc (.cells #[.int .i64 kd, .string s, .int .i64 n, .int .i64 a] 31))) := Lib.hid ((Below.refl _ _).alloc (Nat.le_refl _) _)
  by_cases h5 : 5000 < s.size
  · go_enter Try.func5, Try.ntmps5
    go_wp2_with (go_at_call 8; with_reducible refine (HAl.out _).mono ?_; rintro e w1 ⟨rfl, hb⟩; have B1 := Lib.hid (HB0.out.trans (hb.mono HB0.out.size)); clear hb)
    go_ret
    exact ⟨rfl, B1.out⟩
  · have h5' : s.size ≤ 5000 := by omega
    have HL2 : Hid (∀ w, Calls Try.prog 10 #[.string s] w (RetL 31 s.data.toList w)) := Lib.hid (rlex_any s)
    have HRt : Hid (∀ w, Calls Try.prog 11 #[tokV kd s n a] w (fun e w' => e = .returned (.bool (rightB kd s n)) ∧ Below w.heap.size w w')) := Lib.hid (right_any kd n a s)
    have HRn : Hid (∀ q, rightB kd s n = q ↔ (match (lexS s.data.toList).1 with | [τ] => sameT τ.kind ⟨τ.text.toArray⟩ τ.n τ.at_ kd s n 0 | _ => false) = q) := Lib.hid fun q => Iff.rfl
    unfold RetL at HL2
    have HRi : Hid (∀ τ m, lexS s.data.toList = ([τ], m, 0) → rightB kd s n = (((τ.kind : Int) == kd) && (((⟨τ.text.toArray⟩ : ByteArray).toList == s.toList) && ((τ.n : Int) == n)))) := Lib.hid fun τ m h => right_is h
    generalize hres : lexS s.data.toList = res at *
    obtain ⟨ts, m, er⟩ := res
    simp only at HL2 HRn
    clear h5
    by_cases h1 : ts.length = 1
    · obtain ⟨τ, rfl⟩ : ∃ τ, ts = [τ] := List.length_eq_one_iff.1 h1
      have he : er = 0 := by
        by_cases h : er = 0
        · exact h
        · have := lexS_none hres h; cases this
      subst he
      have HQ := Lib.hid (HRi.out τ m rfl)
      rw [HQ.out] at HRt
      have g1 : (((1 : Nat) : Int) == 1) = true := rfl
      clear hres HRi HRn h1 HQ
      obtain ⟨tt, htt⟩ : ∃ tt : ByteArray, tt = ⟨τ.text.toArray⟩ := ⟨_, rfl⟩
      rw [← htt] at HRt
      have HTT := Lib.hid htt
      clear htt
      cases b1 : ((τ.kind : Int) == kd) <;> cases b2 : (tt.toList == s.toList) <;> cases b3 : ((τ.n : Int) == n)
      all_goals rw [b1, b2, b3] at HRt
      all_goals simp only [Bool.and_true, Bool.and_false] at HRt
      all_goals go_enter Try.func5, Try.ntmps5
      all_goals go_wp2_with (go_at_call 10; with_reducible refine (HL2.out _).mono ?_; rintro e w1 ⟨v, rfl, hown, hb⟩; obtain ⟨g, c, rfl, hgc, hat⟩ := row_at hown (by simp); have K1 := Lib.hid (HK.out.below hb HK.out.lt); have B1 := Lib.hid (HB0.out.trans (hb.mono HB0.out.size)); obtain ⟨y0, y1, y2, y3⟩ := hat 0 τ rfl; rw [← HTT.out] at y1; simp at y0 y1 y2 y3; have x0 := K1.out.cell 0; have x1 := K1.out.cell 1; have x2 := K1.out.cell 2; have x3 := K1.out.cell 3; simp at x0 x1 x2 x3; clear hown hb hat)
      all_goals go_quiet (fail)
      all_goals go_wp2_with (first
        | (go_at_call 8; with_reducible refine (HAl.out _).mono ?_; rintro e w2 ⟨rfl, hb⟩; have hb' := behind hb; have B2 := Lib.hid (B1.out.trans (hb'.mono B1.out.size)); have K2 := Lib.hid (K1.out.below hb' K1.out.lt); have z0 := K2.out.cell 0; have z1 := K2.out.cell 1; have z2 := K2.out.cell 2; have z3 := K2.out.cell 3; simp at z0 z1 z2 z3; clear hb hb')
        | (go_at_call 11; with_reducible refine (HRt.out _).mono ?_; rintro e w3 ⟨rfl, hb⟩; have B3 := Lib.hid (B2.out.trans (hb.mono B2.out.size)); clear hb))
      all_goals go_ret
      all_goals exact ⟨rfl, B3.out⟩
    · have HQ : Hid (rightB kd s n = false) := Lib.hid ((HRn.out _).2 (by
        match ts, h1 with
        | [], _ => rfl
        | [τ], h => exact absurd rfl h
        | a :: b :: r, _ => rfl))
      rw [HQ.out] at HRt
      have g1 : ((ts.length : Int) == 1) = false := by simp; omega
      have g1n : (ts.length == 1) = false := by simp; omega
      have g0 : ((er : Int) == 0) = (er == 0) := by rw [Bool.eq_iff_iff]; simp
      clear hres HRi HRn h1 HQ
      cases e0 : (er == 0)
      all_goals rw [e0] at g0
      all_goals go_enter Try.func5, Try.ntmps5
      all_goals go_wp2_with (go_at_call 10; with_reducible refine (HL2.out _).mono ?_; rintro e w1 ⟨v, rfl, hown, hb⟩; obtain ⟨A, c, rfl⟩ := row_len hown; have K1 := Lib.hid (HK.out.below hb HK.out.lt); have B1 := Lib.hid (HB0.out.trans (hb.mono HB0.out.size)); clear hown hb)
      all_goals go_quiet (fail)
      all_goals go_wp2_with (first
        | (go_at_call 8; with_reducible refine (HAl.out _).mono ?_; rintro e w2 ⟨rfl, hb⟩; have hb' := behind hb; have B2 := Lib.hid (B1.out.trans (hb'.mono B1.out.size)); have K2 := Lib.hid (K1.out.below hb' K1.out.lt); have z0 := K2.out.cell 0; have z1 := K2.out.cell 1; have z2 := K2.out.cell 2; have z3 := K2.out.cell 3; simp at z0 z1 z2 z3; clear hb hb')
        | (go_at_call 11; with_reducible refine (HRt.out _).mono ?_; rintro e w3 ⟨rfl, hb⟩; have B3 := Lib.hid (B2.out.trans (hb.mono B2.out.size)); clear hb))
      all_goals go_ret
      all_goals exact ⟨rfl, B3.out⟩
end
end Go.Proofs.Ytlkbapcienjdcaa
