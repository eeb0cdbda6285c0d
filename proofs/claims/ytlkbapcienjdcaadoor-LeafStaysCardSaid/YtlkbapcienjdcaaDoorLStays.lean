/- LeafStays: the walk. -/
import Derived.Test.YtlkbapcienjdcaaDoorLMathB
import Derived.Deep.RegionHeld3
namespace Go.Proofs.YtlkbapcienjdcaaDoor
open Go.RowKit
attribute [local go_sem ↓] Go.wp_at_zero Go.wp_at_succ
/-- The zones as they were: a row of copies. -/
structure Was (base m : Nat) (L M : List Lz) (u : Value) (W : World) : Prop where
  own : W.ownsRow base 39 2 u M.length (zcells m M)
  zs : ∀ (i : Nat) (y : Lz), M[i]? = some y → ∃ x, L[i]? = some x ∧ y.1 = x.1 ∧ ZRes W base m y.1 (zoneV ((m : Int) - 1) y.2.1 (rlen m y.1) y.2.2)
section
variable {base m p bm : Nat} {L M : List Lz} {u v v' u' : Value} {W W' : World}
theorem Was.nil (base m : Nat) (L : List Lz) (W : World) : Was base m L [] (.slice none 0 0) W := ⟨⟨rfl, .inl ⟨rfl, rfl⟩⟩, fun i y h => by simp at h⟩
theorem Was.below (h : Was base m L M u W) (hb : Below W.heap.size W W') : Was base m L M u W' :=
  ⟨own_kept_below h.own hb, fun i y hy => by obtain ⟨x, h1, h2, h3⟩ := h.zs i y hy; exact ⟨x, h1, h2, h3.below hb⟩⟩
theorem Was.sd (h : Was base m L M u W) (s : Sd p bm v v' W W') (hf : ∀ g, base ≤ g → Free p bm v g) : Was base m L M u W' :=
  ⟨row_sd h.own s (fun g hg => hf g (h.own.lt g hg).1), fun i y hy => by obtain ⟨x, h1, h2, h3⟩ := h.zs i y hy; exact ⟨x, h1, h2, (zres_sd h3 s (zres_free h3 hf)).1⟩⟩
theorem Was.add {x : Lz} {A : Option Addr} {c : Nat} {o : Obj} (h : Was base m L M u W) (hx : L[M.length]? = some x) (hz : ZRes W base m x.1 (zoneV ((m : Int) - 1) A (rlen m x.1) c))
    (ho : W'.ownsRow base 39 2 u' (M.length + 1) (zcells m M ++ [.int .i64 ((m : Int) - 1), .slice A (rlen m x.1) c])) (hg : (W.alloc o).grownBy W' u.ownBlock) : Was base m L (M ++ [(x.1, A, c)]) u' W' := by
  have h1 := h.below (zboxed W o)
  have hN : ∀ q, u.ownBlock = some q → NoInts (W.alloc o) q := fun q e => row_noInts h1.own (by decide) e
  refine ⟨?_, fun i y hy => ?_⟩
  · rw [zcells_snoc, List.length_append]; exact ho
  · rcases Nat.lt_or_ge i M.length with hi | hi
    · rw [List.getElem?_append_left hi] at hy
      obtain ⟨x', q1, q2, q3⟩ := h1.zs i y hy
      exact ⟨x', q1, q2, zres_grown q3 hg hN⟩
    · rw [List.getElem?_append_right hi] at hy
      cases q : i - M.length with
      | zero =>
        rw [q] at hy
        simp at hy
        subst hy
        obtain rfl : i = M.length := by omega
        exact ⟨x, hx, rfl, zres_grown (hz.below (zboxed W o)) hg hN⟩
      | succ r => rw [q] at hy; simp at hy
end
set_option maxRecDepth 100000 in
set_option maxHeartbeats 1600000 in
/-- No table, or too many calls, or too high a limit. -/
theorem stays_far {w : World} {x y : Int} {A : Option Addr} {k c : Nat} {f : Nat → Opr} (ht : Tabs w) (hk : k ≤ 9223372036854775807) (hA : OpRow w A k f) (h : (x < 0 ∨ 6 < x ∨ y < 2) ∨ ∃ m lim : Nat, 0 < m ∧ m ≤ 7 ∧ x = (m : Int) - 1 ∧ y = (lim : Int) ∧ 2 ≤ lim ∧ (fewB f k = false ∨ fewB f k = true ∧ 100 < lim)) :
    Calls Tryd.prog 4 #[.int .i64 x, .int .i64 y, .slice A k c] w (RetB w true) := by
  have HT : Hid (∀ W', Below w.heap.size w W' → Tabs W') := Lib.hid fun W' hb => ht.stays hb
  have HFw : Hid (∀ W', Below w.heap.size w W' → Calls Tryd.prog 8 #[.slice A k c] W' (RetB W' (fewB f k))) := Lib.hid fun W' hb => few_any hk (hA.below hb)
  rcases h with h | ⟨m, lim, h0, h7, rfl, rfl, hl, hf⟩
  · have HNo : Hid (Calls Tryd.prog 7 #[.int .i64 x, .int .i64 y] w (fun e w' => e = .returned (.tuple #[.pointer none, .int .i64 1]) ∧ w = w')) := Lib.hid (new_out (by omega))
    clear h ht hk hA HFw
    go_enter Tryd.func4, Tryd.ntmps4
    go_wp2_with (first
      | (go_at_call 7; ((with_reducible refine (HNo.out).mono ?_); rintro e w1 ⟨rfl, rfl⟩))
      | (go_at_call 9; ((with_reducible refine (alive_any _ (HT.out _ (Below.refl _ _))).mono ?_); rintro e w3 ⟨rfl, hb3⟩)))
    go_ret
    exact ⟨rfl, hb3⟩
  · have HNw : Hid (Calls Tryd.prog 7 #[.int .i64 ((m : Int) - 1), .int .i64 (lim : Int)] w (RetN m lim w)) := Lib.hid (new_in h0 h7 hl ht)
    rcases hf with hf | ⟨hf, h100⟩
    · rw [hf] at HFw
      clear ht hk hA hf
      go_enter Tryd.func4, Tryd.ntmps4
      go_wp2_with (first
        | (go_at_call 7; ((with_reducible refine (HNw.out).mono ?_); rintro e w1 ⟨p, bm, v1, A0, c0, A1, c1, rfl, hT1, hb1⟩); have B1 := Lib.hid hb1; clear hT1 hb1)
        | (go_at_call 8; ((with_reducible refine (HFw.out _ B1.out).mono ?_); rintro e w2 ⟨rfl, hb2⟩); have B2 := Lib.hid (B1.out.trans (hb2.mono B1.out.size)); clear hb2)
        | (go_at_call 9; ((with_reducible refine (alive_any _ (HT.out _ B2.out)).mono ?_); rintro e w3 ⟨rfl, hb3⟩); have B3 := Lib.hid (B2.out.trans (hb3.mono B2.out.size)); clear hb3))
      go_ret
      exact ⟨rfl, B3.out⟩
    · rw [hf] at HFw
      have d1 : decide ((100 : Int) < (lim : Int)) = true := decide_eq_true (by omega)
      have d2 : decide (100 < lim) = true := decide_eq_true h100
      clear ht hk hA hf h100
      go_enter Tryd.func4, Tryd.ntmps4
      go_wp2_with (first
        | (go_at_call 7; ((with_reducible refine (HNw.out).mono ?_); rintro e w1 ⟨p, bm, v1, A0, c0, A1, c1, rfl, hT1, hb1⟩); have B1 := Lib.hid hb1; clear hT1 hb1)
        | (go_at_call 8; ((with_reducible refine (HFw.out _ B1.out).mono ?_); rintro e w2 ⟨rfl, hb2⟩); have B2 := Lib.hid (B1.out.trans (hb2.mono B1.out.size)); clear hb2)
        | (go_at_call 9; ((with_reducible refine (alive_any _ (HT.out _ B2.out)).mono ?_); rintro e w3 ⟨rfl, hb3⟩); have B3 := Lib.hid (B2.out.trans (hb3.mono B2.out.size)); clear hb3))
      go_ret
      exact ⟨rfl, B3.out⟩
theorem doO_ids {m lim : Nat} {L L' : List Lz} {q : Option Mat ⊕ Int} {i : Int} (h0 : 0 < m) (h : DoO m lim L q L' i 0) (h2 : 2 ≤ L.length) : 0 ≤ i ∧ i < (L'.length : Int) := by
  cases q with
  | inl R =>
    obtain ⟨n, x, rfl, hx, -⟩ := putO_at h0 h
    have := (List.getElem?_eq_some_iff.1 hx).1
    omega
  | inr e =>
    obtain ⟨rfl, rfl, _⟩ := h
    omega
set_option maxRecDepth 100000 in
set_option maxHeartbeats 6400000 in
theorem stays_in {w : World} {m lim k c : Nat} {A : Option Addr} {f : Nat → Opr} (h0 : 0 < m) (h7 : m ≤ 7) (hl2 : 2 ≤ lim) (hl : lim ≤ 100) (ht : Tabs w) (hk : k ≤ 9223372036854775807) (hA : OpRow w A k f) (hf : fewB f k = true) :
    Calls Tryd.prog 4 #[.int .i64 ((m : Int) - 1), .int .i64 (lim : Int), .slice A k c] w (RetB w true) := by
  obtain ⟨i0, hi0, hz0, hz1, hz2⟩ := info_parts linfo
  have HI := Lib.hid (And.intro hi0 (And.intro hz0 (And.intro hz1 hz2)))
  have HT : Hid (∀ W', Below w.heap.size w W' → Tabs W') := Lib.hid fun W' hb => ht.stays hb
  have HFw : Hid (∀ W', Below w.heap.size w W' → Calls Tryd.prog 8 #[.slice A k c] W' (RetB W' true)) := Lib.hid fun W' hb => by rw [← hf]; exact few_any hk (hA.below hb)
  have HNw : Hid (Calls Tryd.prog 7 #[.int .i64 ((m : Int) - 1), .int .i64 (lim : Int)] w (RetN m lim w)) := Lib.hid (new_in h0 h7 hl2 ht)
  have d1 : decide ((100 : Int) < (lim : Int)) = false := decide_eq_false (by omega)
  have d2 : decide (100 < lim) = false := decide_eq_false (by omega)
  have HA := Lib.hid hA
  have HK := Lib.hid hk
  have H0 := Lib.hid h0
  have H7 := Lib.hid h7
  have HLim := Lib.hid hl
  have HL2 := Lib.hid hl2
  clear ht hk hA hf h0 h7 hl hl2 hi0 hz0 hz1 hz2
  go_enter Tryd.func4, Tryd.ntmps4
  go_wp2_with (first
    | (go_at_call 7; ((with_reducible refine (HNw.out).mono ?_); rintro e w1 ⟨p, bm, v1, A0, c0, A1, c1, rfl, hT1, hb1⟩); have T1 := Lib.hid hT1; have B1 := Lib.hid hb1; clear hT1 hb1)
    | (go_at_call 8; ((with_reducible refine (HFw.out _ B1.out).mono ?_); rintro e w2 ⟨rfl, hb2⟩); have T2 := Lib.hid (T1.out.below hb2); have B2 := Lib.hid (B1.out.trans (hb2.mono B1.out.size)); clear hb2))
  clear T1 B1 HNw HFw d1 d2
  go_loopw [41] (fun i wr => ∃ (q : Nat) (v : Value) (L : List Lz), q ≤ k ∧ i = .int .i64 q ∧ LTab w.heap.size p bm v m lim L L wr ∧ Below w.heap.size w wr ∧ L.length ≤ lim ∧ 2 ≤ L.length) (fun i _ => k - (intOf i).toNat)
  case atStart => exact ⟨0, _, _, Nat.zero_le _, rfl, T2.out, B2.out, by simpa using HL2.out, by simp⟩
  case round =>
    obtain ⟨q, v, L, hq, rfl, hT, hb, hL, hL2⟩ := hrel
    have HQ := Lib.hid hq
    have HTb := Lib.hid hT
    have HB := Lib.hid hb
    have HL := Lib.hid hL
    have HL2 := Lib.hid hL2
    clear hq hT hb hL hL2 T2 B2
    by_cases hlt : q < k
    · have e1 : decide ((q : Int) < (k : Int)) = true := decide_eq_true (by omega)
      have wq : IntKind.i64.wrap ((q : Int) + 1) = (q : Int) + 1 := IntWalk.i64_in _ (by have := HK.out; omega)
      obtain ⟨b', off, rfl, hbl, hcells⟩ := (HA.out.below HB.out) (by omega)
      obtain ⟨ho, hc⟩ := hcells q hlt
      have c0 : wr.cell? ⟨b', off + q * 6, none⟩ = _ := hc 0 _ rfl
      have c1 := hc 1 _ rfl
      have c2 := hc 2 _ rfl
      have c3 := hc 3 _ rfl
      have c4 := hc 4 _ rfl
      have c5 := hc 5 _ rfl
      clear hcells hc
      obtain ⟨o, hoe⟩ : ∃ o, f q = o := ⟨_, rfl⟩
      rw [hoe] at c0 c1 c2 c3 c4 c5 ho
      obtain ⟨kd, a, b, N, Az, mz, cz, fz, As, ms, cs, fs⟩ := o
      dsimp only at c0 c1 c2 c3 c4 c5
      obtain ⟨⟨x0, x1, x2, x3, x4, x5⟩, hb1, hlt1⟩ := op_box wr kd a b N Az As mz cz ms cs _ rfl
      have HB1 := Lib.hid (HB.out.trans (hb1.mono HB.out.size))
      have HO := Lib.hid (ho.below hb1)
      have HBlk := Lib.hid (Blk.new wr 33 #[.int .i64 kd, .int .i64 a, .int .i64 b, .int .i64 N, .slice Az mz cz, .slice As ms cs])
      have HTx := Lib.hid (HTb.out.below hb1)
      have HFr : Hid (∀ g, wr.heap.size ≤ g → Free p bm v g) := Lib.hid fun g hg => HTb.out.free hg
      clear hb1 hoe ho hlt1
      clear x0 x1 x2 x3 x4 x5
      obtain ⟨ob, hob⟩ : ∃ x, wr.heap.size = x := ⟨_, rfl⟩
      obtain ⟨wq', hwq'⟩ : ∃ x, wr.alloc (.cells #[.int .i64 kd, .int .i64 a, .int .i64 b, .int .i64 N, .slice Az mz cz, .slice As ms cs] 33) = x := ⟨_, rfl⟩
      have HLe : Hid (ob ≤ wq'.heap.size) := Lib.hid (by rw [← hob, ← hwq']; simp)
      rw [hwq'] at HB1 HTx HBlk HO
      rw [hob] at HBlk HFr
      have HB0 := Lib.hid (Below.refl wq'.heap.size wq')
      have HLen : Hid (∀ W', Below wq'.heap.size wq' W' → Calls Tryd.prog 11 #[.pointer (some ⟨p, 0, none⟩)] W' (fun e w' => e = .returned (.int .i64 (L.length : Int)) ∧ W' = w')) := Lib.hid fun W' hb => len_any (HTx.out.below hb)
      have HGet : Hid (∀ (W' : World) (i : Nat) (x : Lz), Below wq'.heap.size wq' W' → L[i]? = some x → Calls Tryd.prog 13 #[.pointer (some ⟨p, 0, none⟩), .int .i64 (i : Int)] W' (RetC W' m x.1)) := Lib.hid fun W' i x hb hx => by
        have q := get_any' H0.out H7.out (HTx.out.below hb) (i : Int)
        rw [(at_of hx).2] at q
        exact q
      clear HA HTb HB
      go_wp2_with (go_at_call 11; ((with_reducible refine (HLen.out _ HB0.out).mono ?_); rintro e w5 ⟨rfl, rfl⟩))
      clear hwq' hob
      go_loopw [47, 11] (fun i u wx => ∃ (q2 : Nat) (M : List Lz), q2 ≤ L.length ∧ M.length = q2 ∧ i = .int .i64 q2 ∧ Was wq'.heap.size m L M u wx ∧ Below wq'.heap.size wq' wx) (fun i _ _ => L.length - (intOf i).toNat)
      case atStart => exact ⟨0, [], Nat.zero_le _, rfl, rfl, Was.nil _ _ _ _, HB0.out⟩
      case round =>
        obtain ⟨q2, M, hq2, hM, rfl, hW, hbx⟩ := hrel
        have HBx := Lib.hid hbx
        have HW := Lib.hid hW
        clear hbx hW
        by_cases hl2 : q2 < L.length
        · have g1 : decide ((q2 : Int) < (L.length : Int)) = true := decide_eq_true (by omega)
          have g2 : decide (q2 < L.length) = true := decide_eq_true hl2
          have wq2 : IntKind.i64.wrap ((q2 : Int) + 1) = (q2 : Int) + 1 := IntWalk.i64_in _ (by have := HL.out; have := HLim.out; omega)
          have hx : L[q2]? = some L[q2] := List.getElem?_eq_getElem hl2
          obtain ⟨x, hxe⟩ : ∃ x, L[q2] = x := ⟨_, rfl⟩
          rw [hxe] at hx
          clear hxe
          subst hM
          have HX := Lib.hid hx
          have HLl := Lib.hid hl2
          have HLn : Hid (M.length + 1 ≤ maxLen ∧ (M.length + 1) * 32 ≤ 140737488355328) := Lib.hid (by have := HL.out; have := HLim.out; unfold maxLen; omega)
          clear hx hl2 hq2
          go_wp2_with (first
            | (go_at_call 13; ((with_reducible refine (HGet.out _ _ x HBx.out HX.out).mono ?_); rintro e w6 ⟨A6, c6, rfl, hz6, hb6⟩); have Z6 := Lib.hid (hz6.lower HBx.out.size); have B6 := Lib.hid (HBx.out.trans (hb6.mono HBx.out.size)); have W6 := Lib.hid (HW.out.below hb6); clear hz6 hb6)
            | (at_builtin; refine wpList_append_own _ rfl _ _ 43 rfl wq'.heap.size 39 i0 (.agg #[.int .i64 0, .slice none 0 0]) 2 32 Tryd.underlying43 HI.out.1 HI.out.2.1 HI.out.2.2.1 HI.out.2.2.2 rfl (by decide) _ _ _ rfl (own_kept_below W6.out.own (zboxed w6 _)) ⟨w6.heap.size, 0, none⟩ 1 1 [.int .i64 ((m : Int) - 1), .slice A6 (rlen m x.1) c6] rfl rfl (news_pair w6 _ _ _) (zone_one _ _ _ _) HLn.out.1 HLn.out.2 (Nat.le_trans B6.out.size (zboxed w6 _).size) ?_; intro v7 w7 ho7 hg7 _; have W7 := Lib.hid (W6.out.add HX.out Z6.out ho7 hg7); have B7 := Lib.hid (Below.grown (B6.out.alloc B6.out.size _) hg7 (Nat.le_trans B6.out.size (zboxed w6 _).size) (fun j hj => (W6.out.own.lt _ hj).1)); clear ho7 hg7))
          exact ⟨⟨M.length + 1, _, by have := HLl.out; omega, by simp, rfl, W7.out, B7.out⟩, by have := HLl.out; show L.length - ((M.length : Int) + 1).toNat < L.length - ((M.length : Int)).toNat; omega⟩
        · have g1 : decide ((q2 : Int) < (L.length : Int)) = false := decide_eq_false (by omega)
          have g3 : decide (q2 < L.length) = false := decide_eq_false hl2
          subst hM
          have hML : M.length = L.length := by omega
          clear hl2 hq2
          obtain ⟨g, cap, rfl⟩ := slice_own HW.out.own (by rw [hML]; have := HL2.out; omega)
          have hBk := HBlk.out.below HBx.out HBlk.out.lt
          have x0 := hBk.cell 0
          have x1 := hBk.cell 1
          have x2 := hBk.cell 2
          have x3 := hBk.cell 3
          have x4 := hBk.cell 4
          have x5 := hBk.cell 5
          have HBr := Lib.hid (HB1.out.trans (HBx.out.mono HB1.out.size))
          have HDo : Hid (Calls Tryd.prog 10 #[.pointer (some ⟨p, 0, none⟩), .agg #[.int .i64 kd, .int .i64 a, .int .i64 b, .int .i64 N, .slice Az mz cz, .slice As ms cs]] wr (RetDo w.heap.size p bm v m lim L (want m L ⟨kd, a, b, N, Az, mz, cz, fz, As, ms, cs, fs⟩) wr)) := Lib.hid
            (does_any (o := ⟨kd, a, b, N, Az, mz, cz, fz, As, ms, cs, fs⟩) H0.out H7.out (by have := HL.out; have := HLim.out; omega) (HTx.out.below HBx.out) (HO.out.below HBx.out) (fun W' hb' => HT.out _ (HBr.out.trans hb')))
          have HML := Lib.hid hML
          have HLt := Lib.hid hlt
          clear hBk hML
          go_wp2_with (go_at_call 10; ((with_reducible refine (HDo.out).mono ?_); rintro e w8 ⟨v8, L8, i8, r8, rfl, hT8, hb8, hs8, hd8⟩); have T8 := Lib.hid hT8; have B8 := Lib.hid (HBr.out.trans hb8); have D8 := Lib.hid hd8; have W8 := Lib.hid (HW.out.sd hs8 (fun g hg => HFr.out g (Nat.le_trans HLe.out hg))); clear hT8 hb8 hs8 hd8)
          obtain ⟨-, rr, rfl⟩ := doO_more D8.out
          clear x0 x1 x2 x3 x4 x5 HDo HW HO HBlk HTx HGet HLen HBx HB0 HB1 HBr
          have HR8 := Lib.hid (Below.refl w8.heap.size w8)
          have HN8 : Hid ((L ++ rr).length ≤ lim ∧ 2 ≤ (L ++ rr).length) := Lib.hid ⟨doO_len D8.out HL.out, by have := HL2.out; rw [List.length_append]; omega⟩
          have HLen8 : Hid (∀ W', Below w8.heap.size w8 W' → Calls Tryd.prog 11 #[.pointer (some ⟨p, 0, none⟩)] W' (fun e w' => e = .returned (.int .i64 ((L ++ rr).length : Int)) ∧ W' = w')) := Lib.hid fun W' hb => len_any (T8.out.below hb)
          have HGet8 : Hid (∀ (W' : World) (i : Nat) (x : Lz), Below w8.heap.size w8 W' → (L ++ rr)[i]? = some x → Calls Tryd.prog 13 #[.pointer (some ⟨p, 0, none⟩), .int .i64 (i : Int)] W' (RetC W' m x.1)) := Lib.hid fun W' i x hb hx => by
            have q := get_any' H0.out H7.out (T8.out.below hb) (i : Int)
            rw [(at_of hx).2] at q
            exact q
          have HSm : Hid (∀ (W' : World) (b1 b2 : Nat) (R : Option Mat) (A1 A2 : Option Addr) (c1 c2 : Nat), ZRes W' b1 m R (zoneV ((m : Int) - 1) A1 (rlen m R) c1) → ZRes W' b2 m R (zoneV ((m : Int) - 1) A2 (rlen m R) c2) → Calls Tryd.prog 14 #[zoneV ((m : Int) - 1) A1 (rlen m R) c1, zoneV ((m : Int) - 1) A2 (rlen m R) c2] W' (RetB W' true)) := Lib.hid fun W' b1 b2 R A1 A2 c1 c2 z1 z2 => by
            have h := same_any (w := W') (Ra := R) (Rb := R) H0.out H7.out (fun _ hW => close_back H0.out H7.out (z1.below hW)) (fun _ hW => close_back H0.out H7.out (z2.below hW))
            rw [same_refl] at h
            exact h
          obtain ⟨n8, hn8⟩ : ∃ n, (L ++ rr).length = n := ⟨_, rfl⟩
          have HIds : Hid (r8 = 0 → 0 ≤ i8 ∧ i8 < (n8 : Int)) := Lib.hid (fun e => by subst e; rw [← hn8]; exact doO_ids H0.out D8.out HL2.out)
          rw [hn8] at HLen8 HN8
          have f1 : decide ((lim : Int) < (n8 : Int)) = false := decide_eq_false (by have := HN8.out.1; omega)
          have f1' : decide (lim < n8) = false := decide_eq_false (by have := HN8.out.1; omega)
          have hge : M.length ≤ n8 := by rw [HML.out, ← hn8, List.length_append]; omega
          have f2 : decide ((n8 : Int) < (M.length : Int)) = false := decide_eq_false (by omega)
          have f2' : decide (n8 < M.length) = false := decide_eq_false (by omega)
          rw [← hn8] at HN8
          clear D8 hge hn8
          by_cases hr : r8 = 0
          · subst hr
            obtain ⟨j1, j2⟩ := HIds.out rfl
            have f3 : decide (i8 < 0) = false := decide_eq_false (by omega)
            have f4 : decide ((n8 : Int) ≤ i8) = false := decide_eq_false (by omega)
            clear j1 j2
            go_wp2_with (go_at_call 11; ((with_reducible refine (HLen8.out _ HR8.out).mono ?_); rintro e w5 ⟨rfl, rfl⟩))
            clear f1 f1' f2 f2' f3 f4
            go_loopw [90] (fun i wy => ∃ q3 : Nat, q3 ≤ M.length ∧ i = .int .i64 q3 ∧ Below w8.heap.size w8 wy) (fun i _ => M.length - (intOf i).toNat)
            case atStart => exact ⟨0, Nat.zero_le _, rfl, HR8.out⟩
            case round =>
              obtain ⟨q3, hq3, rfl, hby⟩ := hrel
              have HBy := Lib.hid hby
              clear hby
              by_cases hl3 : q3 < M.length
              · have g4 : decide ((q3 : Int) < (M.length : Int)) = true := decide_eq_true (by omega)
                have g5 : decide (q3 < M.length) = true := decide_eq_true hl3
                have wq3 : IntKind.i64.wrap ((q3 : Int) + 1) = (q3 : Int) + 1 := IntWalk.i64_in _ (by have := HL.out; have := HLim.out; have := HML.out; omega)
                obtain ⟨y, hy⟩ : ∃ y, M[q3]? = some y := ⟨_, List.getElem?_eq_getElem hl3⟩
                have hWy := W8.out.below HBy.out
                obtain ⟨z0, z1⟩ := zcells_at (m := m) hy
                have hlen := zcells_len m M
                have r0 := (hWy.own.cellAt (q3 * 2) (by omega)).trans z0
                have r1 := (hWy.own.cellAt (q3 * 2 + 1) (by omega)).trans z1
                obtain ⟨x, hx, hxe, hzy⟩ := hWy.zs q3 y hy
                have hgl := (hWy.own.lt g rfl).2
                obtain ⟨Ry, Ay, cy⟩ := y
                dsimp only at hxe hzy r0 r1
                subst hxe
                have HX4 := Lib.hid (prefix_at (r := rr) hx)
                have HL3 := Lib.hid hl3
                have Zy := Lib.hid ((hzy.below (zboxed wr (.cells #[.int .i64 ((m : Int) - 1), .slice Ay (rlen m x.1) cy] 39))).below (Below.refl _ _).drew)
                have Dy := Lib.hid ((Duo.new wr 39 (.int .i64 ((m : Int) - 1)) (.slice Ay (rlen m x.1) cy)).below (Below.refl _ _).drew)
                have By := Lib.hid (HBy.out.alloc HBy.out.size (.cells #[.int .i64 ((m : Int) - 1), .slice Ay (rlen m x.1) cy] 39)).drew
                clear hy z0 z1 hlen hx hzy hWy hl3 hq3
                go_wp2_with fail
                clear r0 r1 hgl
                have Kx0 := Lib.hid (And.intro Dy.out.cell0 Dy.out.cell1)
                go_region_held3 (fun w' => w'.cell? ⟨wr.heap.size, 0, none⟩ = some (.int .i64 ((m : Int) - 1)) ∧ w'.cell? ⟨wr.heap.size, 1, none⟩ = some (.slice Ay (rlen m x.1) cy))
                  (first | (with_reducible exact Kx0.out) | (with_reducible exact Kx1.out) | (with_reducible exact Kx2.out))
                  (first
                  | (go_at_call 13; ((with_reducible refine (HGet8.out _ q3 x By.out HX4.out).mono ?_); rintro e w9 ⟨A9, c9, rfl, hz9, hb9⟩); have Z9 := Lib.hid hz9; have Y9 := Lib.hid (Zy.out.below hb9); have D9 := Lib.hid (Dy.out.below hb9); have B9 := Lib.hid (By.out.trans (hb9.mono By.out.size)); have Kx1 := Lib.hid (And.intro D9.out.cell0 D9.out.cell1); clear hz9 hb9)
                  | (go_at_call 14; ((with_reducible refine (HSm.out _ _ _ _ _ _ _ _ Z9.out Y9.out).mono ?_); rintro e w10 ⟨rfl, hb10⟩); have D10 := Lib.hid (D9.out.below hb10); have B10 := Lib.hid (B9.out.trans (hb10.mono B9.out.size)); have Kx2 := Lib.hid (And.intro D10.out.cell0 D10.out.cell1); clear hb10))
                all_goals go_wp2_with fail
                all_goals exact ⟨⟨q3 + 1, by have := HL3.out; omega, rfl, B10.out⟩, by have := HL3.out; show M.length - ((q3 : Int) + 1).toNat < M.length - ((q3 : Int)).toNat; omega⟩
              · have g4 : decide ((q3 : Int) < (M.length : Int)) = false := decide_eq_false (by omega)
                have g5 : decide (q3 < M.length) = false := decide_eq_false hl3
                clear hl3 hq3
                go_wp2_with fail
                exact ⟨⟨q + 1, v8, L ++ rr, by have := HLt.out; omega, rfl, T8.out.below HBy.out, B8.out.trans (HBy.out.mono B8.out.size), HN8.out.1, HN8.out.2⟩, by have := HLt.out; show k - ((q : Int) + 1).toNat < k - ((q : Int)).toNat; omega⟩

          · have f5 : decide (r8 = 0) = false := decide_eq_false hr
            have f6 : (r8 == 0) = false := by simpa using hr
            clear hr
            go_wp2_with (go_at_call 11; ((with_reducible refine (HLen8.out _ HR8.out).mono ?_); rintro e w5 ⟨rfl, rfl⟩))
            clear f1 f1' f2 f2' f5 f6
            go_loopw [90] (fun i wy => ∃ q3 : Nat, q3 ≤ M.length ∧ i = .int .i64 q3 ∧ Below w8.heap.size w8 wy) (fun i _ => M.length - (intOf i).toNat)
            case atStart => exact ⟨0, Nat.zero_le _, rfl, HR8.out⟩
            case round =>
              obtain ⟨q3, hq3, rfl, hby⟩ := hrel
              have HBy := Lib.hid hby
              clear hby
              by_cases hl3 : q3 < M.length
              · have g4 : decide ((q3 : Int) < (M.length : Int)) = true := decide_eq_true (by omega)
                have g5 : decide (q3 < M.length) = true := decide_eq_true hl3
                have wq3 : IntKind.i64.wrap ((q3 : Int) + 1) = (q3 : Int) + 1 := IntWalk.i64_in _ (by have := HL.out; have := HLim.out; have := HML.out; omega)
                obtain ⟨y, hy⟩ : ∃ y, M[q3]? = some y := ⟨_, List.getElem?_eq_getElem hl3⟩
                have hWy := W8.out.below HBy.out
                obtain ⟨z0, z1⟩ := zcells_at (m := m) hy
                have hlen := zcells_len m M
                have r0 := (hWy.own.cellAt (q3 * 2) (by omega)).trans z0
                have r1 := (hWy.own.cellAt (q3 * 2 + 1) (by omega)).trans z1
                obtain ⟨x, hx, hxe, hzy⟩ := hWy.zs q3 y hy
                have hgl := (hWy.own.lt g rfl).2
                obtain ⟨Ry, Ay, cy⟩ := y
                dsimp only at hxe hzy r0 r1
                subst hxe
                have HX4 := Lib.hid (prefix_at (r := rr) hx)
                have HL3 := Lib.hid hl3
                have Zy := Lib.hid ((hzy.below (zboxed wr (.cells #[.int .i64 ((m : Int) - 1), .slice Ay (rlen m x.1) cy] 39))).below (Below.refl _ _).drew)
                have Dy := Lib.hid ((Duo.new wr 39 (.int .i64 ((m : Int) - 1)) (.slice Ay (rlen m x.1) cy)).below (Below.refl _ _).drew)
                have By := Lib.hid (HBy.out.alloc HBy.out.size (.cells #[.int .i64 ((m : Int) - 1), .slice Ay (rlen m x.1) cy] 39)).drew
                clear hy z0 z1 hlen hx hzy hWy hl3 hq3
                go_wp2_with fail
                clear r0 r1 hgl
                have Kx0 := Lib.hid (And.intro Dy.out.cell0 Dy.out.cell1)
                go_region_held3 (fun w' => w'.cell? ⟨wr.heap.size, 0, none⟩ = some (.int .i64 ((m : Int) - 1)) ∧ w'.cell? ⟨wr.heap.size, 1, none⟩ = some (.slice Ay (rlen m x.1) cy))
                  (first | (with_reducible exact Kx0.out) | (with_reducible exact Kx1.out) | (with_reducible exact Kx2.out))
                  (first
                  | (go_at_call 13; ((with_reducible refine (HGet8.out _ q3 x By.out HX4.out).mono ?_); rintro e w9 ⟨A9, c9, rfl, hz9, hb9⟩); have Z9 := Lib.hid hz9; have Y9 := Lib.hid (Zy.out.below hb9); have D9 := Lib.hid (Dy.out.below hb9); have B9 := Lib.hid (By.out.trans (hb9.mono By.out.size)); have Kx1 := Lib.hid (And.intro D9.out.cell0 D9.out.cell1); clear hz9 hb9)
                  | (go_at_call 14; ((with_reducible refine (HSm.out _ _ _ _ _ _ _ _ Z9.out Y9.out).mono ?_); rintro e w10 ⟨rfl, hb10⟩); have D10 := Lib.hid (D9.out.below hb10); have B10 := Lib.hid (B9.out.trans (hb10.mono B9.out.size)); have Kx2 := Lib.hid (And.intro D10.out.cell0 D10.out.cell1); clear hb10))
                all_goals go_wp2_with fail
                all_goals exact ⟨⟨q3 + 1, by have := HL3.out; omega, rfl, B10.out⟩, by have := HL3.out; show M.length - ((q3 : Int) + 1).toNat < M.length - ((q3 : Int)).toNat; omega⟩
              · have g4 : decide ((q3 : Int) < (M.length : Int)) = false := decide_eq_false (by omega)
                have g5 : decide (q3 < M.length) = false := decide_eq_false hl3
                clear hl3 hq3
                go_wp2_with fail
                exact ⟨⟨q + 1, v8, L ++ rr, by have := HLt.out; omega, rfl, T8.out.below HBy.out, B8.out.trans (HBy.out.mono B8.out.size), HN8.out.1, HN8.out.2⟩, by have := HLt.out; show k - ((q : Int) + 1).toNat < k - ((q : Int)).toNat; omega⟩
    · have e1 : decide ((q : Int) < (k : Int)) = false := decide_eq_false (by omega)
      have e3 : decide (q < k) = false := decide_eq_false hlt
      clear hlt
      go_wp2_with (go_at_call 9; ((with_reducible refine (alive_any _ (HT.out _ HB.out)).mono ?_); rintro e w12 ⟨rfl, hb12⟩); have B12 := Lib.hid (HB.out.trans (hb12.mono HB.out.size)); clear hb12)
      go_ret
      exact ⟨rfl, B12.out⟩
theorem leaf_stays_walk (x y : Int) (A : Option Addr) (k c : Nat) (f : Nat → Opr) (w : World) (ht : Tabs w) (hk : k ≤ 9223372036854775807) (_ : k ≤ c) (hA : OpRow w A k f) :
    Calls Tryd.prog 4 #[.int .i64 x, .int .i64 y, .slice A k c] w (RetB w true) := by
  by_cases hx : x < 0 ∨ 6 < x ∨ y < 2
  · exact stays_far ht hk hA (.inl hx)
  · obtain ⟨m, h0, h7, rfl⟩ : ∃ m : Nat, 0 < m ∧ m ≤ 7 ∧ x = (m : Int) - 1 := ⟨(x + 1).toNat, by omega, by omega, by omega⟩
    obtain ⟨lim, h2, rfl⟩ : ∃ lim : Nat, 2 ≤ lim ∧ y = (lim : Int) := ⟨y.toNat, by omega, by omega⟩
    cases hf : fewB f k
    · exact stays_far ht hk hA (.inr ⟨m, lim, h0, h7, rfl, rfl, h2, .inl hf⟩)
    · by_cases hl : lim ≤ 100
      · exact stays_in h0 h7 h2 hl ht hk hA hf
      · exact stays_far ht hk hA (.inr ⟨m, lim, h0, h7, rfl, rfl, h2, .inr ⟨hf, by omega⟩⟩)
end Go.Proofs.YtlkbapcienjdcaaDoor
