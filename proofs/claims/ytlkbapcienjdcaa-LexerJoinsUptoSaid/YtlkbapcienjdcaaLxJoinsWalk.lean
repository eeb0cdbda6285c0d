/- The lexer layer: the law LexerJoins. -/
import Derived.Test.YtlkbapcienjdcaaLxJoinG
namespace Go.Proofs.Ytlkbapcienjdcaa
open Go.RowKit
/-- Those that are right. -/
def rightsL (xs : List Tk) : List Tk := xs.filter fun x => rightB x.k x.s x.n
theorem rsum_snoc (xs : List Tk) (x : Tk) : rsum (xs ++ [x]) = rsum xs + (x.s.size + 1) := by simp [rsum]
theorem rsum_filter (xs : List Tk) : rsum (rightsL xs) ≤ rsum xs := by
  induction xs with
  | nil => simp [rsum, rightsL]
  | cons x xs ih =>
    unfold rightsL at ih ⊢
    rw [List.filter_cons]
    split
    · simp only [rsum, List.map_cons, List.sum_cons] at ih ⊢; omega
    · simp only [rsum, List.map_cons, List.sum_cons] at ih ⊢; omega
theorem rsum_le (xs : List Tk) (h : ∀ x ∈ xs, x.s.size ≤ 1048576) : rsum xs ≤ xs.length * 1048577 := by
  induction xs with
  | nil => simp [rsum]
  | cons x xs ih =>
    have h1 := h x (List.mem_cons_self ..)
    have h2 := ih fun y hy => h y (List.mem_cons_of_mem _ hy)
    simp only [rsum, List.map_cons, List.sum_cons, List.length_cons] at h2 ⊢
    omega
theorem rights_snoc (xs : List Tk) (x : Tk) : rightsL (xs ++ [x]) = if rightB x.k x.s x.n = true then rightsL xs ++ [x] else rightsL xs := by
  unfold rightsL
  rw [List.filter_append, List.filter_cons]
  split <;> simp
theorem rights_good (xs : List Tk) : ∀ x ∈ rightsL xs, ∃ k v : Nat, x.k = (k : Int) ∧ x.n = (v : Int) ∧ Good x.s.data.toList k v := fun _ hx => good_of (List.mem_filter.1 hx).2
section
variable {W : World}
set_option maxRecDepth 100000 in
set_option maxHeartbeats 12800000 in
theorem lexer_joins_walk (xs : List Tk) (A : Option Addr) (cap : Nat) (W : World) (hxs : 0 < xs.length → ∃ b off, A = some ⟨b, off, none⟩ ∧ b < W.heap.size ∧ ∀ i x, xs[i]? = some x → W.cell? ⟨b, off + i * 4, none⟩ = some (.int .i64 x.k) ∧ W.cell? ⟨b, off + i * 4 + 1, none⟩ = some (.string x.s) ∧ W.cell? ⟨b, off + i * 4 + 2, none⟩ = some (.int .i64 x.n) ∧ W.cell? ⟨b, off + i * 4 + 3, none⟩ = some (.int .i64 x.a))
    (hn : xs.length ≤ 1048576) (hcap : xs.length ≤ cap) (hsz : ∀ x ∈ xs, x.s.size ≤ 1048576) :
    Calls Try.prog 4 #[.slice A xs.length cap] W (fun e w' => e = .returned (.bool true) ∧ Below W.heap.size W w') := by
  obtain ⟨i0, hi, hz0, hz1, hz2⟩ := info_parts tinfo
  have HI := Lib.hid (And.intro hi (And.intro hz0 (And.intro hz1 hz2)))
  have HAl : Hid (∀ w, Calls Try.prog 8 #[] w (fun e w' => e = .returned (.bool true) ∧ Below w.heap.size w w')) := Lib.hid alive_any
  obtain ⟨n, hnn⟩ : ∃ n, xs.length = n := ⟨_, rfl⟩
  rcases Nat.eq_zero_or_pos n with h0 | h0
  · subst h0
    have HJn : Hid (∀ w, Calls Try.prog 12 #[.slice none 0 0] w (fun e w' => e = .returned (.string ⟨#[]⟩) ∧ Below w.heap.size w w')) := Lib.hid fun w => gjoin_any [] w.heap.size (.slice none 0 0) w (by decide) (by decide) (World.ownsRow_nil _ _ _ _)
    have HLx : Hid (∀ w, Calls Try.prog 9 #[.string ⟨#[]⟩] w (fun e w' => ∃ A c, e = .returned (.tuple #[.slice A 0 c, .int .i64 0, .int .i64 0]) ∧ Below w.heap.size w w')) := Lib.hid fun w => (lex_any _ w).mono fun e w' ⟨v, h1, h2, h3⟩ => by
      have hx : lexS (⟨#[]⟩ : ByteArray).data.toList = ([], 0, 0) := by kernel_rfl
      rw [hx] at h1 h2
      obtain ⟨A, c, rfl⟩ := row_len (ts := []) h2
      exact ⟨A, c, h1, h3⟩
    rw [hnn]
    clear hxs hn hsz hnn hcap
    go_enter Try.func4, Try.ntmps4
    go_wp2_with fail
    refine wp_loop_rounds 1 ?_
    rw [rounds_succ]
    go_wp2_with (first
      | (go_at_call 12; with_reducible refine (HJn.out _).mono ?_; rintro e w3 ⟨rfl, hb⟩; have B3 := Lib.hid hb; clear hb)
      | (go_at_call 9; with_reducible refine (HLx.out _).mono ?_; rintro e w4 ⟨A4, c4, rfl, hb⟩; have B4 := Lib.hid (B3.out.trans (hb.mono B3.out.size)); clear hb))
    refine wp_loop_rounds 1 ?_
    rw [rounds_succ]
    go_wp2_with (go_at_call 8; with_reducible refine (HAl.out _).mono ?_; rintro e w5 ⟨rfl, hb⟩; have B5 := Lib.hid (B4.out.trans (hb.mono B4.out.size)); clear hb)
    go_ret
    exact ⟨rfl, B5.out⟩
  · obtain ⟨b, off, rfl, hb, hat⟩ := hxs (by omega)
    have HAt := Lib.hid hat
    have HBl := Lib.hid hb
    have HXs : Hid (∀ i, i < n → ∃ x, xs[i]? = some x ∧ x.s.size ≤ 1048576 ∧ xs.take (i + 1) = xs.take i ++ [x]) := Lib.hid fun i hi => ⟨xs[i]'(by omega), List.getElem?_eq_getElem _, hsz _ (List.getElem_mem _), List.take_succ_eq_append_getElem _⟩
    have HSm : Hid (∀ i, i ≤ n → rsum (xs.take i) ≤ i * 1048577) := Lib.hid fun i hi => by
      have := rsum_le (xs.take i) fun x hx => hsz x (List.mem_of_mem_take hx)
      rw [List.length_take] at this
      have e : min i xs.length = i := by omega
      rw [e] at this
      exact this
    have HRl : Hid (∀ i, i ≤ n → (rightsL (xs.take i)).length ≤ i) := Lib.hid fun i hi => by
      have := List.length_filter_le (fun x : Tk => rightB x.k x.s x.n) (xs.take i)
      rw [List.length_take] at this
      show (List.filter _ _).length ≤ i
      omega
    have HAll : Hid (xs.take n = xs) := Lib.hid (by rw [← hnn, List.take_length])
    rw [hnn] at hn hcap ⊢
    clear hxs hat hb hsz hi hz0 hz1 hz2 hnn
    go_enter Try.func4, Try.ntmps4
    go_wp2_with fail
    go_loopw [3, 4, 13] (fun v3 v4 v13 wr => ∃ i : Nat, v13 = .int .i64 (i : Int) ∧ i ≤ n ∧ v4 = .int .i64 (rsum (xs.take i) : Int) ∧ wr.ownsRow W.heap.size 32 4 v3 (rightsL (xs.take i)).length (gcells (rightsL (xs.take i))) ∧ Below W.heap.size W wr) (fun _ _ v13 _ => n - (RowKit.intOf v13).toNat)
    case atStart => exact ⟨0, rfl, Nat.zero_le _, rfl, World.ownsRow_nil _ _ _ _, Below.refl _ _⟩
    case round =>
      obtain ⟨wo, hwo⟩ : ∃ wo, wo = wr := ⟨_, rfl⟩
      subst hwo
      obtain ⟨i, rfl, hin, rfl, hown, hbw⟩ := hrel
      have hsm := HSm.out i hin
      have hrl := HRl.out i hin
      have HO := Lib.hid hown
      have HBw := Lib.hid hbw
      by_cases hi : i < n
      · obtain ⟨x, hx, hxs, htk⟩ := HXs.out i hi
        obtain ⟨x0, x1, x2, x3⟩ := HAt.out i x hx
        rw [← hbw.cell (p := ⟨b, off + i * 4, none⟩) HBl.out] at x0
        rw [← hbw.cell (p := ⟨b, off + i * 4 + 1, none⟩) HBl.out] at x1
        rw [← hbw.cell (p := ⟨b, off + i * 4 + 2, none⟩) HBl.out] at x2
        rw [← hbw.cell (p := ⟨b, off + i * 4 + 3, none⟩) HBl.out] at x3
        have HRt := Lib.hid (right_any x.k x.n x.a x.s)
        have HSn : Hid (rsum (xs.take (i + 1)) = rsum (xs.take i) + (x.s.size + 1)) := Lib.hid (by rw [htk, rsum_snoc])
        have HRn : Hid (rightsL (xs.take (i + 1)) = if rightB x.k x.s x.n = true then rightsL (xs.take i) ++ [x] else rightsL (xs.take i)) := Lib.hid (by rw [htk, rights_snoc])
        have HK := Lib.hid (Blk.new wo 31 #[.int .i64 x.k, .string x.s, .int .i64 x.n, .int .i64 x.a])
        have HB2 : Hid (Below wo.heap.size wo (wo.alloc (.cells #[.int .i64 x.k, .string x.s, .int .i64 x.n, .int .i64 x.a] 31))) := Lib.hid ((Below.refl _ _).alloc (Nat.le_refl _) _)
        clear hown hbw htk hx
        cases hr : rightB x.k x.s x.n
        · have HRn := Lib.hid (HRn.out.trans (if_neg (by rw [hr]; simp)))
          rw [hr] at HRt
          clear hr
          go_wp2_with (go_at_call 11; with_reducible refine (HRt.out _).mono ?_; rintro e w3 ⟨rfl, hb3⟩; have B3 := Lib.hid (HB2.out.trans (hb3.mono HB2.out.size)); clear hb3)
          go_roundw
          case rel => exact ⟨i + 1, by go_num, by omega, by rw [HSn.out]; go_num, by rw [HRn.out]; exact own_below HO.out B3.out, HBw.out.trans (B3.out.mono HBw.out.size)⟩
          case measure => simp [RowKit.intOf]; omega
        · have HRn := Lib.hid (HRn.out.trans (if_pos hr))
          rw [hr] at HRt
          clear hr
          go_wp2_with (first
            | (go_at_call 11; with_reducible refine (HRt.out _).mono ?_; rintro e w3 ⟨rfl, hb3⟩; have B3 := Lib.hid (HB2.out.trans (hb3.mono HB2.out.size)); have K3 := Lib.hid (HK.out.below hb3 HK.out.lt); have O3 := Lib.hid (own_below HO.out B3.out); have z0 := K3.out.cell 0; have z1 := K3.out.cell 1; have z2 := K3.out.cell 2; have z3 := K3.out.cell 3; simp at z0 z1 z2 z3; have BW3 := Lib.hid (HBw.out.trans (B3.out.mono HBw.out.size)); clear hb3)
            | (at_builtin; refine wpList_append_own _ rfl _ _ 23 rfl W.heap.size 32 i0 (.agg #[.int .i64 0, .string ⟨#[]⟩, .int .i64 0, .int .i64 0]) 4 40 Try.underlying23 HI.out.1 HI.out.2.1 HI.out.2.2.1 HI.out.2.2.2 rfl (by decide) _ _ _ rfl (O3.out.alloc _) ⟨w3.heap.size, 0, none⟩ 1 1 [.int .i64 x.k, .string x.s, .int .i64 x.n, .int .i64 x.a] rfl rfl (news_quad2 _ rfl _ _ _ _ _) (quad_one _ _ _ _) (by unfold maxLen; omega) (by omega) (by have := BW3.out.size; simp; omega) ?_; intro v' w4 hown' hgrow4 _; have O4 := Lib.hid hown'; have B4 := Lib.hid (Below.grown (BW3.out.alloc BW3.out.size _) hgrow4 (by have := BW3.out.size; simp; omega) (fun j hj => (O3.out.lt _ hj).1)); clear hown' hgrow4))
          go_roundw
          case rel => exact ⟨i + 1, by go_num, by omega, by rw [HSn.out]; go_num, by rw [HRn.out, List.length_append, gcells_snoc]; exact O4.out, B4.out⟩
          case measure => simp [RowKit.intOf]; omega
      · have hie : i = n := by omega
        subst hie
        have hgood := rights_good xs
        have hrf := rsum_filter xs
        rw [HAll.out] at hown hsm hrl
        have HRA : Hid (∀ (w : World) base t v (us : List Tok), w.ownsRow base t 4 v us.length (tcells us) → 0 < us.length → ∃ g c, v = .slice (some ⟨g, 0, none⟩) us.length c ∧ us.length ≤ c ∧ g < w.heap.size ∧ ∀ (i : Nat) (x : Tok), us[i]? = some x → w.cell? ⟨g, i * 4, none⟩ = some (.int .i64 x.kind) ∧ w.cell? ⟨g, i * 4 + 1, none⟩ = some (.string ⟨x.text.toArray⟩) ∧ w.cell? ⟨g, i * 4 + 2, none⟩ = some (.int .i64 x.n) ∧ w.cell? ⟨g, i * 4 + 3, none⟩ = some (.int .i64 x.at_)) := Lib.hid fun w base t v us h h0 => by
          obtain ⟨g, c, rfl, h1, h2⟩ := row_at h h0
          exact ⟨g, c, rfl, h1, (h.lt g rfl).2, h2⟩
        by_cases hbig : 4096 < rsum xs
        · have g1 : (4096 : Int) < (rsum xs : Int) := by omega
          rw [HAll.out]
          clear hi hown hbw hbig
          go_wp2_with (go_at_call 8; with_reducible refine (HAl.out _).mono ?_; rintro e w3 ⟨rfl, hb⟩; have B3 := Lib.hid (HBw.out.trans (hb.mono HBw.out.size)); clear hb)
          go_ret
          exact ⟨rfl, B3.out⟩
        · have g1 : (rsum xs : Int) ≤ 4096 := by omega
          rw [HAll.out]
          rw [HAll.out] at HO
          obtain ⟨us, mm, hlex, hul, hue⟩ := lexS_join (rightsL xs) hgood (by omega)
          have hjl := join_le (rightsL xs)
          have HJn := Lib.hid (fun w base v h => gjoin_any (rightsL xs) base v w (by omega) (by omega) h)
          have HLx : Hid (∀ w, Calls Try.prog 9 #[.string ⟨(Lib.join ((rightsL xs).map (·.s.data.toList)) [32]).toArray⟩] w (fun e w' => ∃ v, e = .returned (.tuple #[v, .int .i64 (mm : Int), .int .i64 0]) ∧ w'.ownsRow w.heap.size 32 4 v us.length (tcells us) ∧ Below w.heap.size w w')) := Lib.hid fun w => (lex_any _ w).mono fun e w' ⟨v, h1, h2, h3⟩ => by
            rw [hlex] at h1 h2
            exact ⟨v, h1, h2, h3⟩
          have HUe := Lib.hid hue
          obtain ⟨k, hk⟩ : ∃ k, us.length = k := ⟨_, rfl⟩
          obtain ⟨js, hjs⟩ : ∃ js : ByteArray, (⟨(Lib.join ((rightsL xs).map (·.s.data.toList)) [32]).toArray⟩ : ByteArray) = js := ⟨_, rfl⟩
          rw [hjs] at HJn HLx
          have hkr : (rightsL xs).length = k := by omega
          obtain ⟨rs, hrs⟩ : ∃ rs, rightsL xs = rs := ⟨_, rfl⟩
          rw [hrs] at HJn HO HUe hkr hown
          have HUs : Hid (∀ i, i < k → ∃ u x, us[i]? = some u ∧ rs[i]? = some x) := Lib.hid fun i hi => ⟨us[i]'(by omega), rs[i]'(by omega), List.getElem?_eq_getElem _, List.getElem?_eq_getElem _⟩
          have hkn : k ≤ 1048576 := by omega
          have d0 : (((k : Nat) : Int) != ((k : Nat) : Int)) = false := by simp
          clear hi hgood hrf hbig hlex hue hjl hjs hrs hsm hrl HSm HRl HXs HAll hbw
          rcases Nat.eq_zero_or_pos k with h00 | h00
          · subst h00
            obtain ⟨A3, c3, rfl⟩ := grow_len hown
            rw [hkr] at HO ⊢
            rw [hk] at HLx
            have HJ0 := Lib.hid (HJn.out wo W.heap.size (.slice A3 0 c3) (by rw [hkr]; exact HO.out))
            clear hown
            go_wp2_with (first
              | (go_at_call 12; with_reducible refine HJ0.out.mono ?_; rintro e w3 ⟨rfl, hb⟩; have B3 := Lib.hid (HBw.out.trans (hb.mono HBw.out.size)); clear hb)
              | (go_at_call 9; with_reducible refine (HLx.out _).mono ?_; rintro e w4 ⟨v4, rfl, ho, hb⟩; obtain ⟨A4, c4, rfl⟩ : ∃ A c, v4 = .slice A 0 c := (by have := row_len (ts := us) (by rw [hk]; exact ho); rw [hk] at this; exact this); have B4 := Lib.hid (B3.out.trans (hb.mono B3.out.size)); clear hb ho))
            refine wp_loop_rounds 1 ?_
            rw [rounds_succ]
            go_wp2_with (go_at_call 8; with_reducible refine (HAl.out _).mono ?_; rintro e w5 ⟨rfl, hb⟩; have B5 := Lib.hid (B4.out.trans (hb.mono B4.out.size)); clear hb)
            go_ret
            exact ⟨rfl, B5.out⟩
          · obtain ⟨g3, c3, rfl, hc3, ha3⟩ := grow_at hown (by omega)
            have hg3 := (hown.lt g3 rfl).2
            have A3 := Lib.hid ha3
            have G3 := Lib.hid hg3
            rw [hkr] at HO ⊢
            rw [hkr] at hc3
            have HJ0 := Lib.hid (HJn.out wo W.heap.size (.slice (some ⟨g3, 0, none⟩) k c3) (by rw [hkr]; exact HO.out))
            have HRA1 : Hid (∀ (w : World) base t v, w.ownsRow base t 4 v us.length (tcells us) → ∃ g c, v = .slice (some ⟨g, 0, none⟩) k c ∧ k ≤ c ∧ g < w.heap.size ∧ ∀ (i : Nat) (x : Tok), us[i]? = some x → w.cell? ⟨g, i * 4, none⟩ = some (.int .i64 x.kind) ∧ w.cell? ⟨g, i * 4 + 1, none⟩ = some (.string ⟨x.text.toArray⟩) ∧ w.cell? ⟨g, i * 4 + 2, none⟩ = some (.int .i64 x.n) ∧ w.cell? ⟨g, i * 4 + 3, none⟩ = some (.int .i64 x.at_)) := Lib.hid fun w base t v h => by
              have := HRA.out w base t v us h (by omega)
              rw [hk] at this
              exact this
            clear hown ha3 hg3
            go_wp2_with (first
              | (go_at_call 12; with_reducible refine HJ0.out.mono ?_; rintro e w3 ⟨rfl, hb⟩; have BJ := Lib.hid hb; have B3 := Lib.hid (HBw.out.trans (hb.mono HBw.out.size)); clear hb)
              | (go_at_call 9; with_reducible refine (HLx.out _).mono ?_; rintro e w4 ⟨v4, rfl, ho, hb⟩; obtain ⟨g4, c4, rfl, hc4, hg4, ha4⟩ := HRA1.out _ _ _ _ ho; have A4 := Lib.hid ha4; have G4 := Lib.hid hg4; have BL := Lib.hid (BJ.out.trans (hb.mono BJ.out.size)); have B4 := Lib.hid (B3.out.trans (hb.mono B3.out.size)); clear hb ho ha4 hg4))
            go_loopw [51] (fun v51 wq => ∃ i : Nat, v51 = .int .i64 (i : Int) ∧ i ≤ k ∧ Below w4.heap.size w4 wq) (fun v51 _ => k - (RowKit.intOf v51).toNat)
            case atStart => exact ⟨0, rfl, Nat.zero_le _, Below.refl _ _⟩
            case round =>
              obtain ⟨i, rfl, hin, hbq⟩ := hrel
              have HBq := Lib.hid (B4.out.trans (hbq.mono B4.out.size))
              by_cases hi : i < k
              · obtain ⟨u, x, hu, hx⟩ := HUs.out i hi
                obtain ⟨x0, x1, x2, x3⟩ := A3.out i x hx
                obtain ⟨y0, y1, y2, y3⟩ := A4.out i u hu
                obtain ⟨q1, q2, q3⟩ := HUe.out i u x hu hx
                have hwq := BL.out.trans (hbq.mono BL.out.size)
                have e1 : ∀ j, wr.cell? ⟨g3, j, none⟩ = wo.cell? ⟨g3, j, none⟩ := fun j => hwq.cell (p := ⟨g3, j, none⟩) G3.out
                have e2 : ∀ j, wr.cell? ⟨g4, j, none⟩ = w4.cell? ⟨g4, j, none⟩ := fun j => hbq.cell (p := ⟨g4, j, none⟩) G4.out
                rw [← e1] at x0 x1 x2 x3
                rw [← e2] at y0 y1 y2 y3
                rw [← q1] at x0
                rw [q2] at y1
                rw [← q3] at x2
                have HB7 := Lib.hid hbq
                clear e1 e2 hwq hu hx hbq q1 q2 q3
                go_wp2_with fail
                go_quiet (fail)
                go_wp2
                go_roundw
                case rel => exact ⟨i + 1, by go_num, by omega, HB7.out.trans ⟨rfl, rfl, rfl, Nat.le_refl _, fun _ _ => rfl⟩⟩
                case measure => simp [RowKit.intOf]; omega
              · go_wp2_with (go_at_call 8; with_reducible refine (HAl.out _).mono ?_; rintro e w5 ⟨rfl, hb⟩; have B5 := Lib.hid (HBq.out.trans (hb.mono HBq.out.size)); clear hb)
                go_ret
                exact ⟨rfl, B5.out⟩
end
end Go.Proofs.Ytlkbapcienjdcaa
