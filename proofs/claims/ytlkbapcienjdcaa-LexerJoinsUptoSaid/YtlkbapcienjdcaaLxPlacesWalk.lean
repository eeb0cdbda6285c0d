/- The lexer layer: the law LexerPlaces. -/
import Derived.Test.YtlkbapcienjdcaaLxMathP
namespace Go.Proofs.Ytlkbapcienjdcaa
open Go.RowKit
section
variable {W : World}
theorem behind {w w3 : World} {n : Nat} (h : Below (w.drewN n).heap.size (w.drewN n) w3) : Below w.heap.size w w3 := Below.trans (b := w.drewN n) ⟨rfl, rfl, rfl, Nat.le_refl _, fun _ _ => rfl⟩ h
set_option maxRecDepth 100000 in
set_option maxHeartbeats 6400000 in
theorem lexer_places_walk (s : ByteArray) (W : World) : Calls Try.prog 7 #[.string s] W (fun e w' => e = .returned (.bool true) ∧ Below W.heap.size W w') := by
  have HAl : Hid (∀ w, Calls Try.prog 8 #[] w (fun e w' => e = .returned (.bool true) ∧ Below w.heap.size w w')) := Lib.hid alive_any
  have HL1 : Hid (∀ w, Calls Try.prog 9 #[.string s] w (RetL 32 s.data.toList w)) := Lib.hid (lex_any s)
  have HRL : Hid (∀ (a b : Nat) w, Sil s.data.toList a b → b ≤ s.size → s.size ≤ 4096 → Calls Try.prog 10 #[.string (s.extract a b)] w (fun e w' => ∃ A c n, e = .returned (.tuple #[.slice A 0 c, .int .i64 n, .int .i64 0]) ∧ Below w.heap.size w w')) := Lib.hid fun a b w h1 h2 h3 => (rlex_any _ w).mono fun e w' ⟨v, e1, e2, e3⟩ => by
    have hx : lexS (s.extract a b).data.toList = ([], b - a, 0) := by
      rw [Lib.extract_data]
      exact sil_lexS h1 (by rw [list_size]; exact h2) (by rw [list_size]; exact h3)
    rw [hx] at e1 e2
    obtain ⟨A, c, rfl⟩ := row_len (ts := []) e2
    exact ⟨A, c, _, e1, e3⟩
  have HCh : Hid (∀ ts n, lexS s.data.toList = (ts, n, 0) → Chain s.data.toList 0 ts ∧ s.size ≤ 4096) := Lib.hid fun ts n h => by
    have := lexS_chain h
    rw [list_size] at this
    exact this
  unfold RetL at HL1
  obtain ⟨l, hl⟩ : ∃ l, s.data.toList = l := ⟨_, rfl⟩
  have HL := Lib.hid hl
  rw [hl] at HL1 HRL HCh
  generalize hres : lexS l = res at *
  obtain ⟨ts, m, er⟩ := res
  simp only at HL1
  by_cases he : er = 0
  · subst he
    obtain ⟨hch, h4⟩ := HCh.out ts m rfl
    have HC0 := Lib.hid hch
    have HR := Lib.hid hres
    clear hl hres hch HCh
    obtain ⟨n, hn⟩ : ∃ n, ts.length = n := ⟨_, rfl⟩
    rcases Nat.eq_zero_or_pos n with h0 | h0
    · subst h0
      obtain rfl := List.length_eq_zero_iff.1 hn
      simp only [List.length_nil] at HL1
      clear hn
      go_enter Try.func7, Try.ntmps7
      go_wp2_with (go_at_call 9; with_reducible refine (HL1.out _).mono ?_; rintro e w1 ⟨v, rfl, ho, hb⟩; obtain ⟨A1, c1, rfl⟩ := row_len (ts := []) ho; have B1 := Lib.hid hb; clear ho hb)
      refine wp_loop_rounds 1 ?_
      rw [rounds_succ]
      go_wp2_with (go_at_call 8; with_reducible refine (HAl.out _).mono ?_; rintro e w3 ⟨rfl, hb⟩; have B3 := Lib.hid (B1.out.trans (hb.mono B1.out.size)); clear hb)
      go_ret
      exact ⟨rfl, B3.out⟩
    · have HTs : Hid (∀ i, i < n → ∃ t, ts[i]? = some t ∧ ts.drop i = t :: ts.drop (i + 1)) := Lib.hid fun i hi => ⟨ts[i]'(by omega), List.getElem?_eq_getElem _, List.drop_eq_getElem_cons (by omega)⟩
      have HRA : Hid (∀ (w : World) base t v, w.ownsRow base t 4 v n (tcells ts) → ∃ g c, v = .slice (some ⟨g, 0, none⟩) n c ∧ (n ≤ c ∧ n ≤ 9223372036854775807) ∧ g < w.heap.size ∧ ∀ (i : Nat) (x : Tok), ts[i]? = some x → w.cell? ⟨g, i * 4, none⟩ = some (.int .i64 x.kind) ∧ w.cell? ⟨g, i * 4 + 1, none⟩ = some (.string ⟨x.text.toArray⟩) ∧ w.cell? ⟨g, i * 4 + 2, none⟩ = some (.int .i64 x.n) ∧ w.cell? ⟨g, i * 4 + 3, none⟩ = some (.int .i64 x.at_)) := Lib.hid fun w base t v h => by
        rw [← hn] at h ⊢
        obtain ⟨g, c, rfl, h1, h2⟩ := row_at h (by omega)
        exact ⟨g, c, rfl, ⟨h1, row_cap h⟩, (h.lt g rfl).2, h2⟩
      rw [hn] at HL1
      clear hn
      go_enter Try.func7, Try.ntmps7
      go_wp2_with (go_at_call 9; with_reducible refine (HL1.out _).mono ?_; rintro e w1 ⟨v, rfl, ho, hb⟩; obtain ⟨g1, c1, rfl, ⟨hc1, hcn⟩, hg1, ha1⟩ := HRA.out _ _ _ _ ho; have A1 := Lib.hid ha1; have B1 := Lib.hid hb; have G1 := Lib.hid hg1; clear ho hb ha1 hg1)
      go_loopw [6, 28] (fun v6 v28 wr => ∃ i a : Nat, v6 = .int .i64 (a : Int) ∧ v28 = .int .i64 (i : Int) ∧ i ≤ n ∧ a ≤ s.size ∧ Below w1.heap.size w1 wr ∧ Hid (Chain l a (ts.drop i))) (fun _ v28 _ => n - (RowKit.intOf v28).toNat)
      case atStart => exact ⟨0, 0, rfl, rfl, Nat.zero_le _, Nat.zero_le _, Below.refl _ _, HC0⟩
      case round =>
        obtain ⟨i, a, rfl, rfl, hin, has, hbw, HC⟩ := hrel
        have HBw := Lib.hid (B1.out.trans (hbw.mono B1.out.size))
        by_cases hi : i < n
        · obtain ⟨t, ht, hdr⟩ := HTs.out i hi
          obtain ⟨x0, x1, x2, x3⟩ := A1.out i t ht
          have e1 : ∀ k, wr.cell? ⟨g1, k, none⟩ = w1.cell? ⟨g1, k, none⟩ := fun k => hbw.cell (p := ⟨g1, k, none⟩) G1.out
          rw [← e1] at x0 x1 x2 x3
          have hcc := HC.out
          rw [hdr] at hcc
          obtain ⟨k1, k2, k3, k4, k5, k6⟩ := hcc
          obtain ⟨tt, htt⟩ : ∃ tt : ByteArray, tt = ⟨t.text.toArray⟩ := ⟨_, rfl⟩
          have hts : tt.size = t.text.length := by rw [← list_size, htt]
          have hll : l.length = s.size := by rw [← HL.out, list_size]
          rw [hll] at k2
          have hex : s.extract t.at_ (t.at_ + t.text.length) = tt := by
            rw [htt]
            have := ba_list (s := s.extract t.at_ (t.at_ + t.text.length)) (l := t.text) (by rw [Lib.extract_data, HL.out, Nat.add_sub_cancel_left]; exact k3)
            exact this
          have HRL1 := Lib.hid (fun w => HRL.out a t.at_ w k5 (by omega) h4)
          have HN := Lib.hid k6
          rw [← htt] at x1
          have HB2 := Lib.hid hbw
          have HK := Lib.hid (Blk.new wr 32 #[.int .i64 t.kind, .string tt, .int .i64 t.n, .int .i64 t.at_])
          obtain ⟨k, hk⟩ : ∃ k, t.text.length = k := ⟨_, rfl⟩
          obtain ⟨p, hp⟩ : ∃ p, t.at_ = p := ⟨_, rfl⟩
          rw [hk] at hts hex k2 k4 HN
          rw [hp] at x3 hex k1 k2 HRL1 HN HK
          have d1 : decide ((p : Int) < (a : Int)) = false := decide_eq_false (by omega)
          have d2 : decide ((s.size : Int) < (p : Int) + (k : Int)) = false := decide_eq_false (by omega)
          have d1n : decide (p < a) = false := decide_eq_false (by omega)
          have hw : IntKind.i64.wrap ((p : Int) + (k : Int)) = (p : Int) + (k : Int) := by rw [IntKind.wrap_i64]; omega
          have d4 : ((k : Int) == 0) = false := by simp; omega
          have d4n : (k == 0) = false := by simp; omega
          clear e1 ht hdr hbw k3 k5 k6 htt hll hk hp
          go_wp2_with fail
          obtain ⟨W2, hW2⟩ : ∃ x, wr.alloc (.cells #[.int .i64 (t.kind : Int), .string tt, .int .i64 (t.n : Int), .int .i64 (p : Int)] 32) = x := ⟨_, rfl⟩
          rw [hW2] at HK ⊢
          have HBW2 := Lib.hid (show Below wr.heap.size wr W2 by rw [← hW2]; exact (Below.refl _ _).alloc (Nat.le_refl _) _)
          have y0 := HK.out.cell 0
          have y1 := HK.out.cell 1
          have y2 := HK.out.cell 2
          have y3 := HK.out.cell 3
          simp at y0 y1 y2 y3
          clear hW2
          go_quiet (fail)
          go_wp2_with (go_at_call 10; with_reducible refine (HRL1.out _).mono ?_; rintro e w3 ⟨A3, c3, n3, rfl, hb3⟩; have hb3' := behind hb3; have K3 := Lib.hid (HK.out.below hb3' HK.out.lt); have B3 := Lib.hid ((HBW2.out).trans (hb3'.mono HBW2.out.size)); have z0 := K3.out.cell 0; have z1 := K3.out.cell 1; have z2 := K3.out.cell 2; have z3 := K3.out.cell 3; simp at z0 z1 z2 z3; clear hb3 hb3')
          go_roundw
          case rel => exact ⟨i + 1, p + k, by go_num, by go_num, by omega, k2, HB2.out.trans (B3.out.mono HB2.out.size), HN⟩
          case measure => simp [RowKit.intOf]; omega
        · go_wp2_with (go_at_call 8; with_reducible refine (HAl.out _).mono ?_; rintro e w3 ⟨rfl, hb⟩; have B3 := Lib.hid (HBw.out.trans (hb.mono HBw.out.size)); clear hb)
          go_ret
          exact ⟨rfl, B3.out⟩
  · have d0 : ((er : Int) != 0) = true := by simp; omega
    have d1 : ((er : Int) == 0) = false := by simp; omega
    clear hl hres HCh HRL
    go_enter Try.func7, Try.ntmps7
    go_wp2_with (first
      | (go_at_call 9; with_reducible refine (HL1.out _).mono ?_; rintro e w1 ⟨v, rfl, ho, hb⟩; have B1 := Lib.hid hb; clear ho hb)
      | (go_at_call 8; with_reducible refine (HAl.out _).mono ?_; rintro e w3 ⟨rfl, hb⟩; have B3 := Lib.hid (B1.out.trans (hb.mono B1.out.size)); clear hb))
    go_ret
    exact ⟨rfl, B3.out⟩
end
end Go.Proofs.Ytlkbapcienjdcaa
