/- The lexer layer: the laws LexerReads and LexerLines. -/
import Derived.Test.YtlkbapcienjdcaaLxAlive
namespace Go.Proofs.Ytlkbapcienjdcaa
open Go.RowKit
attribute [local go_sem ↓] neRT eqgR
section
variable {W : World}
theorem row_cap {w : World} {base size : Nat} {t : TypeId} {v : Value} {n : Nat} {xs : List Value} (h : w.ownsRow base t size v n xs) : n ≤ 9223372036854775807 := by
  rcases h.2 with ⟨-, e⟩ | ⟨g, cap, cur, -, -, -, h1, h2, -⟩
  · omega
  · unfold maxLen at h2; omega
set_option maxRecDepth 100000 in
set_option maxHeartbeats 6400000 in
theorem lexer_reads_walk (s : ByteArray) (W : World) : Calls Try.prog 3 #[.string s] W (fun e w' => e = .returned (.bool true) ∧ Below W.heap.size W w') := by
  have HAl : Hid (∀ w, Calls Try.prog 8 #[] w (fun e w' => e = .returned (.bool true) ∧ Below w.heap.size w w')) := Lib.hid alive_any
  by_cases h5 : 5000 < s.size
  · go_enter Try.func3, Try.ntmps3
    go_wp2_with (go_at_call 8; with_reducible refine (HAl.out _).mono ?_; rintro e w1 ⟨rfl, hb⟩; have B1 := Lib.hid hb; clear hb)
    go_ret
    exact ⟨rfl, B1.out⟩
  · have h5' : s.size ≤ 5000 := by omega
    have HL1 : Hid (∀ w, Calls Try.prog 9 #[.string s] w (RetL 32 s.data.toList w)) := Lib.hid (lex_any s)
    have HL2 : Hid (∀ w, Calls Try.prog 10 #[.string s] w (RetL 31 s.data.toList w)) := Lib.hid (rlex_any s)
    unfold RetL at HL1 HL2
    generalize lexS s.data.toList = res at *
    obtain ⟨ts, m, er⟩ := res
    simp only at HL1 HL2
    clear h5
    rcases Nat.eq_zero_or_pos ts.length with h0 | h0
    · obtain rfl := List.length_eq_zero_iff.1 h0
      simp only [List.length_nil] at HL1 HL2
      clear h0
      go_enter Try.func3, Try.ntmps3
      go_wp2_with (first
        | (go_at_call 9; with_reducible refine (HL1.out _).mono ?_; rintro e w1 ⟨v, rfl, ho, hb⟩; obtain ⟨A1, c1, rfl⟩ := row_len (ts := []) ho; have B1 := Lib.hid hb; clear ho hb)
        | (go_at_call 10; with_reducible refine (HL2.out _).mono ?_; rintro e w2 ⟨v, rfl, ho, hb⟩; obtain ⟨A2, c2, rfl⟩ := row_len (ts := []) ho; have B2 := Lib.hid (B1.out.trans (hb.mono B1.out.size)); clear ho hb))
      refine wp_loop_rounds 1 ?_
      rw [rounds_succ]
      go_wp2_with (go_at_call 8; with_reducible refine (HAl.out _).mono ?_; rintro e w3 ⟨rfl, hb⟩; have B3 := Lib.hid (B2.out.trans (hb.mono B2.out.size)); clear hb)
      go_ret
      exact ⟨rfl, B3.out⟩
    · obtain ⟨n, hn⟩ : ∃ n, ts.length = n := ⟨_, rfl⟩
      have HTs : Hid (∀ i, i < n → ∃ t, ts[i]? = some t) := Lib.hid fun i hi => ⟨ts[i]'(by omega), List.getElem?_eq_getElem _⟩
      have HN := Lib.hid hn
      have H0 := Lib.hid h0
      have HRA : Hid (∀ (w : World) base t v, w.ownsRow base t 4 v n (tcells ts) → ∃ g c, v = .slice (some ⟨g, 0, none⟩) n c ∧ (n ≤ c ∧ n ≤ 9223372036854775807) ∧ g < w.heap.size ∧ ∀ (i : Nat) (x : Tok), ts[i]? = some x → w.cell? ⟨g, i * 4, none⟩ = some (.int .i64 x.kind) ∧ w.cell? ⟨g, i * 4 + 1, none⟩ = some (.string ⟨x.text.toArray⟩) ∧ w.cell? ⟨g, i * 4 + 2, none⟩ = some (.int .i64 x.n) ∧ w.cell? ⟨g, i * 4 + 3, none⟩ = some (.int .i64 x.at_)) := Lib.hid fun w base t v h => by
        rw [← hn] at h ⊢
        obtain ⟨g, c, rfl, h1, h2⟩ := row_at h h0
        exact ⟨g, c, rfl, ⟨h1, row_cap h⟩, (h.lt g rfl).2, h2⟩
      rw [hn] at HL1 HL2 h0
      clear hn
      go_enter Try.func3, Try.ntmps3
      go_wp2_with (first
        | (go_at_call 9; with_reducible refine (HL1.out _).mono ?_; rintro e w1 ⟨v, rfl, ho, hb⟩; obtain ⟨g1, c1, rfl, ⟨hc1, hcn⟩, hg1, ha1⟩ := HRA.out _ _ _ _ ho; have A1 := Lib.hid ha1; have B1 := Lib.hid hb; have G1 := Lib.hid hg1; clear ho hb ha1 hg1)
        | (go_at_call 10; with_reducible refine (HL2.out _).mono ?_; rintro e w2 ⟨v, rfl, ho, hb⟩; obtain ⟨g2, c2, rfl, ⟨hc2, -⟩, hg2, ha2⟩ := HRA.out _ _ _ _ ho; have A2 := Lib.hid ha2; have B12 := Lib.hid hb; have B2 := Lib.hid (B1.out.trans (hb.mono B1.out.size)); have G2 := Lib.hid hg2; clear ho hb ha2 hg2))
      go_loopw [43] (fun v wr => ∃ i : Nat, v = .int .i64 (i : Int) ∧ i ≤ n ∧ Below w2.heap.size w2 wr) (fun v _ => n - (RowKit.intOf v).toNat)
      case atStart => exact ⟨0, rfl, Nat.zero_le _, Below.refl _ _⟩
      case round =>
        obtain ⟨i, rfl, hin, hbw⟩ := hrel
        have HBw := Lib.hid (B2.out.trans (hbw.mono B2.out.size))
        by_cases hi : i < n
        · obtain ⟨t, ht⟩ := HTs.out i hi
          obtain ⟨x0, x1, x2, x3⟩ := A1.out i t ht
          obtain ⟨y0, y1, y2, y3⟩ := A2.out i t ht
          have hw1 := B12.out.trans (hbw.mono B12.out.size)
          have e1 : ∀ k, wr.cell? ⟨g1, k, none⟩ = w1.cell? ⟨g1, k, none⟩ := fun k => hw1.cell (p := ⟨g1, k, none⟩) G1.out
          have e2 : ∀ k, wr.cell? ⟨g2, k, none⟩ = w2.cell? ⟨g2, k, none⟩ := fun k => hbw.cell (p := ⟨g2, k, none⟩) G2.out
          rw [← e1] at x0 x1 x2 x3
          rw [← e2] at y0 y1 y2 y3
          have q := sameT_self (t.kind : Int) (t.n : Int) (t.at_ : Int) ⟨t.text.toArray⟩
          have HBq := Lib.hid hbw
          clear e1 e2 hw1 ht hbw
          go_wp2_with fail
          go_quiet (fail)
          go_wp2
          go_roundw
          case rel => exact ⟨i + 1, by go_num, by omega, HBq.out.trans ⟨rfl, rfl, rfl, Nat.le_refl _, fun _ _ => rfl⟩⟩
          case measure => simp [RowKit.intOf]; omega
        · go_wp2_with (go_at_call 8; with_reducible refine (HAl.out _).mono ?_; rintro e w3 ⟨rfl, hb⟩; have B3 := Lib.hid (HBw.out.trans (hb.mono HBw.out.size)); clear hb)
          go_ret
          exact ⟨rfl, B3.out⟩
set_option maxRecDepth 100000 in
set_option maxHeartbeats 3200000 in
theorem lexer_lines_walk (s : ByteArray) (at_ : Int) (W : World) : Calls Try.prog 6 #[.string s, .int .i64 at_] W (fun e w' => e = .returned (.bool true) ∧ Below W.heap.size W w') := by
  have HAl : Hid (∀ w, Calls Try.prog 8 #[] w (fun e w' => e = .returned (.bool true) ∧ Below w.heap.size w w')) := Lib.hid alive_any
  by_cases h5 : 5000 < s.size
  · go_enter Try.func6, Try.ntmps6
    go_wp2_with (go_at_call 8; with_reducible refine (HAl.out _).mono ?_; rintro e w1 ⟨rfl, hb⟩; have B1 := Lib.hid hb; clear hb)
    go_ret
    exact ⟨rfl, B1.out⟩
  · have h5' : s.size ≤ 5000 := by omega
    have HL1 := Lib.hid (line_any s h5' at_)
    have HL2 := Lib.hid (rline_any s h5' at_)
    generalize (lc 1 1 (s.data.toList.take (cutN s.size at_))).1 = x at *
    generalize (lc 1 1 (s.data.toList.take (cutN s.size at_))).2 = y at *
    clear h5
    go_enter Try.func6, Try.ntmps6
    go_wp2_with (first
      | (go_at_call 13; with_reducible refine (HL1.out _).mono ?_; rintro e w1 ⟨rfl, rfl⟩)
      | (go_at_call 14; with_reducible refine (HL2.out _).mono ?_; rintro e w1 ⟨rfl, rfl⟩)
      | (go_at_call 8; with_reducible refine (HAl.out _).mono ?_; rintro e w1 ⟨rfl, hb⟩; have B1 := Lib.hid hb; clear hb))
    go_ret
    exact ⟨rfl, B1.out⟩
end
end Go.Proofs.Ytlkbapcienjdcaa
