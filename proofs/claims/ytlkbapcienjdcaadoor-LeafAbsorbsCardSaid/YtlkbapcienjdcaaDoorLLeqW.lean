/- LeafLeq: the walk. -/
import Derived.Test.YtlkbapcienjdcaaDoorLMathB
import Derived.BigQuiet
namespace Go.Proofs.YtlkbapcienjdcaaDoor
open Go.RowKit
attribute [local go_sem ↓] Go.wp_at_zero Go.wp_at_succ
theorem two_box (w : World) (a b : Int) (x : World) (hx : x = w.alloc (.cells #[.int .i64 a, .int .i64 b] 45)) : (x.cell? ⟨w.heap.size, 0, none⟩ = some (.int .i64 a) ∧ x.cell? ⟨w.heap.size, 1, none⟩ = some (.int .i64 b)) ∧ Below w.heap.size w x ∧ w.heap.size < x.heap.size := by
  subst hx
  have h := Duo.new w 45 (.int .i64 a) (.int .i64 b)
  exact ⟨⟨h.cell0, h.cell1⟩, zboxed w _, h.lt⟩
theorem drewN_low (w : World) : ∀ q, Below w.heap.size w (w.drewN q)
  | 0 => Below.refl _ _
  | q + 1 => (drewN_low w q).trans (Below.refl _ _).drew
set_option maxRecDepth 100000 in
set_option maxHeartbeats 1600000 in
/-- No table, or too many calls. -/
theorem leq_far {w : World} {x : Int} {A : Option Addr} {k c : Nat} {f : Nat → Opr} {ya yb : Int} (ht : Tabs w) (hk : k ≤ 9223372036854775807) (hA : OpRow w A k f) (h : (x < 0 ∨ 6 < x) ∨ ∃ m : Nat, 0 < m ∧ m ≤ 7 ∧ x = (m : Int) - 1 ∧ fewB f k = false) :
    Calls Tryd.prog 5 #[.int .i64 x, .slice A k c, .agg #[.int .i64 ya, .int .i64 yb]] w (RetB w true) := by
  have HTw : Hid (∀ W', Below w.heap.size w W' → Tabs W') := Lib.hid fun W' hb => ht.stays hb
  have HF0 : Hid (∀ W', Below w.heap.size w W' → Calls Tryd.prog 8 #[.slice A k c] W' (RetB W' (fewB f k))) := Lib.hid fun W' hb => few_any hk (hA.below hb)
  have HH := Lib.hid h
  clear ht hk hA h
  obtain ⟨⟨y0, y1⟩, hby, hly⟩ := two_box w ya yb _ rfl
  have HBy := Lib.hid hby
  have HLy := Lib.hid hly
  go_enter Tryd.func5, Tryd.ntmps5
  go_wp2_with fail
  go_quiet ((fail))
  have HB0 : Hid (Below w.heap.size w ((w.alloc (.cells #[.int .i64 ya, .int .i64 yb] 45)).drewN nq)) := Lib.hid (HBy.out.trans ((drewN_low _ nq).mono HBy.out.size))
  obtain ⟨wb, hwb⟩ : ∃ x, (w.alloc (.cells #[.int .i64 ya, .int .i64 yb] 45)).drewN nq = x := ⟨_, rfl⟩
  rw [hwb] at HB0 ⊢
  clear hwb y0 y1 HBy HLy hly hby
  have HNo : Hid (x < 0 ∨ 6 < x → Calls Tryd.prog 7 #[.int .i64 x, .int .i64 50] wb (fun e w' => e = .returned (.tuple #[.pointer none, .int .i64 1]) ∧ wb = w')) := Lib.hid fun h => new_out (by omega)
  have h := HH.out
  clear HH
  rcases h with h | ⟨m, h0, h7, rfl, hf⟩
  · have HN1 := Lib.hid (HNo.out h)
    clear h HNo
    go_wp2_with (first
      | (go_at_call 7; ((with_reducible refine (HN1.out).mono ?_); rintro e w1 ⟨rfl, rfl⟩))
      | (go_at_call 9; ((with_reducible refine (alive_any _ (HTw.out _ HB0.out)).mono ?_); rintro e w3 ⟨rfl, hb3⟩); have B3 := Lib.hid (HB0.out.trans (hb3.mono HB0.out.size)); clear hb3))
    go_ret
    exact ⟨rfl, B3.out⟩
  · have HNw : Hid (Calls Tryd.prog 7 #[.int .i64 ((m : Int) - 1), .int .i64 50] wb (RetN m 50 wb)) := Lib.hid (new_in (lim := 50) h0 h7 (by decide) (HTw.out _ HB0.out))
    rw [hf] at HF0
    clear hf HNo
    go_wp2_with (first
      | (go_at_call 7; ((with_reducible refine (HNw.out).mono ?_); rintro e w1 ⟨p, bm, v1, A0, c0, A1, c1, rfl, hT1, hb1⟩); have B1 := Lib.hid (HB0.out.trans (hb1.mono HB0.out.size)); clear hT1 hb1)
      | (go_at_call 8; ((with_reducible refine (HF0.out _ B1.out).mono ?_); rintro e w2 ⟨rfl, hb2⟩); have B2 := Lib.hid (B1.out.trans (hb2.mono B1.out.size)); clear hb2)
      | (go_at_call 9; ((with_reducible refine (alive_any _ (HTw.out _ B2.out)).mono ?_); rintro e w3 ⟨rfl, hb3⟩); have B3 := Lib.hid (B2.out.trans (hb3.mono B2.out.size)); clear hb3))
    go_ret
    exact ⟨rfl, B3.out⟩
/-- What stands behind the Join. -/
theorem leq_end {B p bm m : Nat} {v' : Value} {L L' : List Lz} {W' : World} {na nb : Nat} {xa xb : Lz} {j r : Int} (h0 : 0 < m) (hL' : LTab B p bm v' m 50 L' L' W') (ha : L[na]? = some xa) (hb : L[nb]? = some xb) (hO : PutO m 50 L (jnO m m xa.1 xb.1) L' j r) :
    (L'[na]? = some xa ∧ L'[nb]? = some xb) ∧ (r = 40 ∨ (r = 0 ∧ (hasN L'.length j = true ∧ leqO m m (atZ L' (na : Int)) (atZ L' j) = true ∧ leqO m m (atZ L' (nb : Int)) (atZ L' j) = true) ∧ (j = (nb : Int) ↔ leqO m m xa.1 xb.1 = true))) := by
  obtain ⟨-, q, rfl⟩ := putO_more hO
  have ha' := prefix_at (r := q) ha
  have hb' := prefix_at (r := q) hb
  refine ⟨⟨ha', hb'⟩, ?_⟩
  rcases putO_err hO with rfl | rfl
  · obtain ⟨n, x, rfl, hx, hs⟩ := putO_at h0 hO
    refine .inr ⟨rfl, ⟨(at_of hx).1, ?_, ?_⟩, ?_⟩
    · rw [at_z hx, at_z ha', leq_congr hs]; exact jn_ge1 m _ _
    · rw [at_z hx, at_z hb', leq_congr hs]; exact jn_ge2 m _ _
    · rw [← jn_right]
      constructor
      · intro e
        obtain rfl : n = nb := by omega
        rw [hx] at hb'
        cases hb'
        exact so_symm hs
      · intro e
        rw [same_at hL' hx hb' (so_trans hs e)]
  · exact .inl rfl
set_option maxRecDepth 100000 in
set_option maxHeartbeats 6400000 in
theorem leq_in {w : World} {m k c : Nat} {A : Option Addr} {f : Nat → Opr} {ya yb : Int} (h0 : 0 < m) (h7 : m ≤ 7) (ht : Tabs w) (hk : k ≤ 9223372036854775807) (hA : OpRow w A k f) (hf : fewB f k = true) :
    Calls Tryd.prog 5 #[.int .i64 ((m : Int) - 1), .slice A k c, .agg #[.int .i64 ya, .int .i64 yb]] w (RetB w true) := by
  have HTw : Hid (∀ W', Below w.heap.size w W' → Tabs W') := Lib.hid fun W' hb => ht.stays hb
  have HF0 : Hid (∀ W', Below w.heap.size w W' → Calls Tryd.prog 8 #[.slice A k c] W' (RetB W' (fewB f k))) := Lib.hid fun W' hb => few_any hk (hA.below hb)
  rw [hf] at HF0
  have HA0 := Lib.hid hA
  have HK := Lib.hid hk
  have H0 := Lib.hid h0
  have H7 := Lib.hid h7
  clear ht hk hA hf h0 h7
  obtain ⟨⟨y0, y1⟩, hby, hly⟩ := two_box w ya yb _ rfl
  have HBy := Lib.hid hby
  have HLy := Lib.hid hly
  go_enter Tryd.func5, Tryd.ntmps5
  go_wp2_with fail
  go_quiet ((fail))
  have HB0 : Hid (Below w.heap.size w ((w.alloc (.cells #[.int .i64 ya, .int .i64 yb] 45)).drewN nq)) := Lib.hid (HBy.out.trans ((drewN_low _ nq).mono HBy.out.size))
  obtain ⟨wb, hwb⟩ : ∃ x, (w.alloc (.cells #[.int .i64 ya, .int .i64 yb] 45)).drewN nq = x := ⟨_, rfl⟩
  rw [hwb] at HB0 ⊢
  clear hwb y0 y1 HBy HLy hly hby
  have HNw : Hid (Calls Tryd.prog 7 #[.int .i64 ((m : Int) - 1), .int .i64 50] wb (RetN m 50 wb)) := Lib.hid (new_in (lim := 50) H0.out H7.out (by decide) (HTw.out _ HB0.out))
  have HT : Hid (∀ W', Below wb.heap.size wb W' → Tabs W') := Lib.hid fun W' hb => HTw.out _ (HB0.out.trans (hb.mono HB0.out.size))
  have HFw : Hid (∀ W', Below wb.heap.size wb W' → Calls Tryd.prog 8 #[.slice A k c] W' (RetB W' true)) := Lib.hid fun W' hb => HF0.out _ (HB0.out.trans (hb.mono HB0.out.size))
  have HA := Lib.hid (HA0.out.below HB0.out)
  clear HTw HF0 HA0
  go_wp2_with (first
    | (go_at_call 7; ((with_reducible refine (HNw.out).mono ?_); rintro e w1 ⟨p, bm, v1, A0, c0, A1, c1, rfl, hT1, hb1⟩); have T1 := Lib.hid hT1; have B1 := Lib.hid hb1; clear hT1 hb1)
    | (go_at_call 8; ((with_reducible refine (HFw.out _ B1.out).mono ?_); rintro e w2 ⟨rfl, hb2⟩); have T2 := Lib.hid (T1.out.below hb2); have B2 := Lib.hid (B1.out.trans (hb2.mono B1.out.size)); clear hb2))
  clear T1 B1 HNw HFw
  go_loopw [38] (fun i wr => ∃ (q : Nat) (v : Value) (L : List Lz), q ≤ k ∧ i = .int .i64 q ∧ LTab wb.heap.size p bm v m 50 L L wr ∧ Below wb.heap.size wb wr ∧ L.length ≤ 50) (fun i _ => k - (intOf i).toNat)
  case atStart => exact ⟨0, _, _, Nat.zero_le _, rfl, T2.out, B2.out, by simp⟩
  case round =>
    obtain ⟨q, v, L, hq, rfl, hT, hb, hL⟩ := hrel
    have HQ := Lib.hid hq
    have HTb := Lib.hid hT
    have HB := Lib.hid hb
    have HL := Lib.hid hL
    clear hq hT hb hL T2 B2
    by_cases hlt : q < k
    · have e1 : decide ((q : Int) < (k : Int)) = true := decide_eq_true (by omega)
      have wq : IntKind.i64.wrap ((q : Int) + 1) = (q : Int) + 1 := IntWalk.i64_in _ (by have := HK.out; omega)
      obtain ⟨b', off, rfl, hbl, hcells⟩ := (HA.out.below HB.out) (by omega)
      obtain ⟨ho, hc⟩ := hcells q hlt
      have c0 : wr.cell? ⟨b', off + q * 6, none⟩ = _ := hc 0 _ rfl
      have c1 := hc 1 _ rfl
      have c2 := hc 2 _ rfl
      have c3 := hc 3 _ rfl
      have c4 := hc 4 _ rfl
      have c5 := hc 5 _ rfl
      clear hcells hc
      obtain ⟨o, hoe⟩ : ∃ o, f q = o := ⟨_, rfl⟩
      rw [hoe] at c0 c1 c2 c3 c4 c5 ho
      obtain ⟨kd, a, b, N, Az, mz, cz, fz, As, ms, cs, fs⟩ := o
      dsimp only at c0 c1 c2 c3 c4 c5
      obtain ⟨⟨x0, x1, x2, x3, x4, x5⟩, hb1, hlt1⟩ := op_box wr kd a b N Az As mz cz ms cs _ rfl
      have HB1 := Lib.hid (HB.out.trans (hb1.mono HB.out.size))
      have HDo : Hid (Calls Tryd.prog 10 #[.pointer (some ⟨p, 0, none⟩), .agg #[.int .i64 kd, .int .i64 a, .int .i64 b, .int .i64 N, .slice Az mz cz, .slice As ms cs]] (wr.alloc (.cells #[.int .i64 kd, .int .i64 a, .int .i64 b, .int .i64 N, .slice Az mz cz, .slice As ms cs] 33)) (RetDo wb.heap.size p bm v m 50 L (want m L ⟨kd, a, b, N, Az, mz, cz, fz, As, ms, cs, fs⟩) (wr.alloc (.cells #[.int .i64 kd, .int .i64 a, .int .i64 b, .int .i64 N, .slice Az mz cz, .slice As ms cs] 33)))) := Lib.hid
        (does_any (o := ⟨kd, a, b, N, Az, mz, cz, fz, As, ms, cs, fs⟩) H0.out H7.out (by have := HL.out; omega) (HTb.out.below hb1) (ho.below hb1) (fun W' hb' => HT.out _ (HB1.out.trans hb')))
      clear hb1 hoe ho
      go_wp2_with (go_at_call 10; ((with_reducible refine (HDo.out).mono ?_); rintro e w4 ⟨v4, L4, i4, r4, rfl, hT4, hb4, hs4, hd4⟩); have T4 := Lib.hid hT4; have B4 := Lib.hid (HB1.out.trans hb4); have D4 := Lib.hid hd4; clear hT4 hb4 hs4 hd4)
      exact ⟨⟨q + 1, v4, L4, by omega, rfl, T4.out, B4.out, doO_len D4.out HL.out⟩, by show k - ((q : Int) + 1).toNat < k - ((q : Int)).toNat; omega⟩
    · have e1 : decide ((q : Int) < (k : Int)) = false := decide_eq_false (by omega)
      have e3 : decide (q < k) = false := decide_eq_false hlt
      clear hlt
      obtain ⟨wa, rfl⟩ : ∃ x, x = wr := ⟨_, rfl⟩
      have HBw : Hid (∀ W', Below wb.heap.size wb W' → Below w.heap.size w W') := Lib.hid fun W' hb => HB0.out.trans (hb.mono HB0.out.size)
      have HLen : Hid (∀ W', Below wa.heap.size wa W' → Calls Tryd.prog 11 #[.pointer (some ⟨p, 0, none⟩)] W' (fun e w' => e = .returned (.int .i64 (L.length : Int)) ∧ W' = w')) := Lib.hid fun W' hb => len_any (HTb.out.below hb)
      have HR0 := Lib.hid (Below.refl wa.heap.size wa)
      by_cases hin : (¬ ya < 0 ∧ ¬ yb < 0) ∧ ya < (L.length : Int) ∧ yb < (L.length : Int)
      · obtain ⟨⟨ia, ib⟩, la, lb⟩ := hin
        have d1 : decide (ya < 0) = false := decide_eq_false ia
        have d2 : decide (yb < 0) = false := decide_eq_false ib
        have d3 : decide ((L.length : Int) ≤ ya) = false := decide_eq_false (by omega)
        have d4 : decide ((L.length : Int) ≤ yb) = false := decide_eq_false (by omega)
        have k3 : decide (L.length ≤ ya.toNat) = false := decide_eq_false (by omega)
        have k4 : decide (L.length ≤ yb.toNat) = false := decide_eq_false (by omega)
        obtain ⟨na, rfl⟩ : ∃ n : Nat, ya = (n : Int) := ⟨ya.toNat, by omega⟩
        obtain ⟨nb, rfl⟩ : ∃ n : Nat, yb = (n : Int) := ⟨yb.toNat, by omega⟩
        obtain ⟨xa, hxa⟩ : ∃ x, L[na]? = some x := ⟨_, List.getElem?_eq_getElem (by omega)⟩
        obtain ⟨xb, hxb⟩ : ∃ x, L[nb]? = some x := ⟨_, List.getElem?_eq_getElem (by omega)⟩
        have HJ : Hid (Calls Tryd.prog 16 #[.pointer (some ⟨p, 0, none⟩), .int .i64 (na : Int), .int .i64 (nb : Int)] wa (RetP wb.heap.size p bm v m 50 L (jnO m m xa.1 xb.1) wa)) := Lib.hid ((joinT_any H0.out H7.out (by have := HL.out; omega) HTb.out (fun W' hb' => HT.out _ (HB.out.trans hb'))).mono fun e w' hr => by
          rcases hr.1 with ⟨_, h2⟩ | ⟨h1, _⟩
          · rw [at_z hxa, at_z hxb] at h2; exact h2
          · rw [(at_of hxa).1, (at_of hxb).1] at h1; cases h1)
        have HXa := Lib.hid hxa
        have HXb := Lib.hid hxb
        rw [Int.toNat_natCast] at k3 k4
        clear ia ib la lb hxa hxb
        go_wp2_with (first
          | (go_at_call 11; ((with_reducible refine (HLen.out _ HR0.out).mono ?_); rintro e w5 ⟨rfl, rfl⟩))
          | (go_at_call 16; ((with_reducible refine (HJ.out).mono ?_); rintro e w6 ⟨v6, L6, j, r, rfl, hT6, hb6, hs6, hO6⟩); have T6 := Lib.hid hT6; have B6 := Lib.hid (HB.out.trans hb6); have O6 := Lib.hid hO6; clear hT6 hb6 hs6 hO6))
        obtain ⟨⟨ha', hb'⟩, hend⟩ := leq_end H0.out T6.out HXa.out HXb.out O6.out
        have HR6 := Lib.hid (Below.refl w6.heap.size w6)
        obtain ⟨b1, hb1⟩ : ∃ b, leqO m m xa.1 xb.1 = b := ⟨_, rfl⟩
        have HLab : Hid (∀ W', Below w6.heap.size w6 W' → Calls Tryd.prog 15 #[.pointer (some ⟨p, 0, none⟩), .int .i64 (na : Int), .int .i64 (nb : Int)] W' (RetB W' b1)) := Lib.hid fun W' hb => by
          have q := leqT_any (i := (na : Int)) (j := (nb : Int)) H0.out H7.out (T6.out.below hb)
          rw [(at_of ha').1, (at_of hb').1, at_z ha', at_z hb', hb1] at q
          exact q
        have HGa : Hid (∀ W', Below w6.heap.size w6 W' → Calls Tryd.prog 13 #[.pointer (some ⟨p, 0, none⟩), .int .i64 (na : Int)] W' (RetC W' m xa.1)) := Lib.hid fun W' hb => by
          have q := get_any' H0.out H7.out (T6.out.below hb) (na : Int)
          rw [(at_of ha').2] at q
          exact q
        have HGb : Hid (∀ W', Below w6.heap.size w6 W' → Calls Tryd.prog 13 #[.pointer (some ⟨p, 0, none⟩), .int .i64 (nb : Int)] W' (RetC W' m xb.1)) := Lib.hid fun W' hb => by
          have q := get_any' H0.out H7.out (T6.out.below hb) (nb : Int)
          rw [(at_of hb').2] at q
          exact q
        have HZl : Hid (∀ (W' : World) (g1 g2 : Nat) (A1 A2 : Option Addr) (c1 c2 : Nat), ZRes W' g1 m xa.1 (zoneV ((m : Int) - 1) A1 (rlen m xa.1) c1) → ZRes W' g2 m xb.1 (zoneV ((m : Int) - 1) A2 (rlen m xb.1) c2) → Calls Tryd.prog 17 #[zoneV ((m : Int) - 1) A1 (rlen m xa.1) c1, zoneV ((m : Int) - 1) A2 (rlen m xb.1) c2] W' (RetB W' b1)) := Lib.hid fun W' g1 g2 A1 A2 c1 c2 z1 z2 => by
          have q := leq_any (w := W') (ma := m) (mb := m) (Ra := xa.1) (Rb := xb.1) H0.out H7.out (fun _ hW => two_of (fun _ hV => close_back H0.out H7.out ((z1.below hW).below hV)) (fun _ hV => close_back H0.out H7.out ((z2.below hW).below hV)))
          rw [hb1] at q
          exact q
        have HB6 : Hid (∀ W', Below w6.heap.size w6 W' → Below w.heap.size w W') := Lib.hid fun W' hb => HBw.out _ (B6.out.trans (hb.mono B6.out.size))
        have HAl : Hid (∀ W', Below w6.heap.size w6 W' → Calls Tryd.prog 9 #[] W' (RetB W' true)) := Lib.hid fun W' hb => alive_any _ (HT.out _ (B6.out.trans (hb.mono B6.out.size)))
        rcases hend with rfl | ⟨rfl, ⟨hj, l1, l2⟩, hiff⟩
        · clear HJ HXa HXb ha' hb' hb1 HLen HTb HB HA HT O6 T6 HL
          cases b1
          all_goals go_wp2_with (first
            | (go_at_call 9; ((with_reducible refine (HAl.out _ HR6.out).mono ?_); rintro e w7 ⟨rfl, hb7⟩); have B7 := Lib.hid hb7; clear hb7)
            | (go_at_call 15; ((with_reducible refine (HLab.out _ B7.out).mono ?_); rintro e w8 ⟨rfl, hb8⟩); have B8 := Lib.hid (B7.out.trans (hb8.mono B7.out.size)); clear hb8)
            | (go_at_call 13; ((with_reducible refine (HGa.out _ B8.out).mono ?_); rintro e w9 ⟨A9, c9, rfl, hz9, hb9⟩); have Z9 := Lib.hid hz9; have B9 := Lib.hid (B8.out.trans (hb9.mono B8.out.size)); clear hb9 hz9)
            | (go_at_call 13; ((with_reducible refine (HGb.out _ B9.out).mono ?_); rintro e w10 ⟨A10, c10, rfl, hz10, hb10⟩); have Y9 := Lib.hid (Z9.out.below hb10); have Z10 := Lib.hid hz10; have B10 := Lib.hid (B9.out.trans (hb10.mono B9.out.size)); clear hb10 hz10)
            | (go_at_call 17; ((with_reducible refine (HZl.out _ _ _ _ _ _ _ Y9.out Z10.out).mono ?_); rintro e w11 ⟨rfl, hb11⟩); have B11 := Lib.hid (B10.out.trans (hb11.mono B10.out.size)); clear hb11))
          all_goals go_ret
          all_goals exact ⟨rfl, HB6.out _ B11.out⟩
        · have HLaj : Hid (∀ W', Below w6.heap.size w6 W' → Calls Tryd.prog 15 #[.pointer (some ⟨p, 0, none⟩), .int .i64 (na : Int), .int .i64 j] W' (RetB W' true)) := Lib.hid fun W' hb => by
            have q := leqT_any (i := (na : Int)) (j := j) H0.out H7.out (T6.out.below hb)
            rw [(at_of ha').1, hj, l1] at q
            exact q
          have HLbj : Hid (∀ W', Below w6.heap.size w6 W' → Calls Tryd.prog 15 #[.pointer (some ⟨p, 0, none⟩), .int .i64 (nb : Int), .int .i64 j] W' (RetB W' true)) := Lib.hid fun W' hb => by
            have q := leqT_any (i := (nb : Int)) (j := j) H0.out H7.out (T6.out.below hb)
            rw [(at_of hb').1, hj, l2] at q
            exact q
          rw [hb1] at hiff
          have gj : decide (j = (nb : Int)) = b1 := bool_iff (by rw [decide_eq_true_eq]; exact hiff)
          have gj2 : (j == (nb : Int)) = b1 := by rw [← gj]; exact bool_iff (by simp)
          clear HJ HXa HXb ha' hb' hb1 HLen HTb HB HA HT O6 T6 HL hj l1 l2 hiff
          cases b1
          all_goals go_wp2_with (first
            | (go_at_call 9; ((with_reducible refine (HAl.out _ HR6.out).mono ?_); rintro e w7 ⟨rfl, hb7⟩); have B7 := Lib.hid hb7; clear hb7)
            | (go_at_call 15; ((with_reducible refine (HLab.out _ B7.out).mono ?_); rintro e w8 ⟨rfl, hb8⟩); have B8 := Lib.hid (B7.out.trans (hb8.mono B7.out.size)); clear hb8)
            | (go_at_call 13; ((with_reducible refine (HGa.out _ B8.out).mono ?_); rintro e w9 ⟨A9, c9, rfl, hz9, hb9⟩); have Z9 := Lib.hid hz9; have B9 := Lib.hid (B8.out.trans (hb9.mono B8.out.size)); clear hb9 hz9)
            | (go_at_call 13; ((with_reducible refine (HGb.out _ B9.out).mono ?_); rintro e w10 ⟨A10, c10, rfl, hz10, hb10⟩); have Y9 := Lib.hid (Z9.out.below hb10); have Z10 := Lib.hid hz10; have B10 := Lib.hid (B9.out.trans (hb10.mono B9.out.size)); clear hb10 hz10)
            | (go_at_call 17; ((with_reducible refine (HZl.out _ _ _ _ _ _ _ Y9.out Z10.out).mono ?_); rintro e w11 ⟨rfl, hb11⟩); have B11 := Lib.hid (B10.out.trans (hb11.mono B10.out.size)); clear hb11)
            | (go_at_call 15; ((with_reducible refine (HLaj.out _ B11.out).mono ?_); rintro e w12 ⟨rfl, hb12⟩); have B12 := Lib.hid (B11.out.trans (hb12.mono B11.out.size)); clear hb12)
            | (go_at_call 15; ((with_reducible refine (HLbj.out _ B12.out).mono ?_); rintro e w13 ⟨rfl, hb13⟩); have B13 := Lib.hid (B12.out.trans (hb13.mono B12.out.size)); clear hb13)
            | (go_at_call 15; ((with_reducible refine (HLab.out _ B13.out).mono ?_); rintro e w14 ⟨rfl, hb14⟩); have B14 := Lib.hid (B13.out.trans (hb14.mono B13.out.size)); clear hb14))
          all_goals go_ret
          all_goals exact ⟨rfl, HB6.out _ B14.out⟩
      · have HLq : Hid (∀ W', Below wa.heap.size wa W' → Calls Tryd.prog 15 #[.pointer (some ⟨p, 0, none⟩), .int .i64 ya, .int .i64 yb] W' (RetB W' false)) := Lib.hid fun W' hb => by
          have q := leqT_any (i := ya) (j := yb) H0.out H7.out (HTb.out.below hb)
          have e : (hasN L.length ya && (hasN L.length yb && leqO m m (atZ L ya) (atZ L yb))) = false := by
            unfold hasN
            by_cases c1 : 0 ≤ ya ∧ ya < (L.length : Int)
            · rw [show (decide (0 ≤ yb) && decide (yb < (L.length : Int))) = false by simp; omega]
              simp
            · rw [show (decide (0 ≤ ya) && decide (ya < (L.length : Int))) = false by simp; omega]
              simp
          rw [e] at q
          exact q
        have HAl : Hid (∀ W', Below wa.heap.size wa W' → Calls Tryd.prog 9 #[] W' (RetB W' true)) := Lib.hid fun W' hb => alive_any _ (HT.out _ (HB.out.trans (hb.mono HB.out.size)))
        have HBa : Hid (∀ W', Below wa.heap.size wa W' → Below w.heap.size w W') := Lib.hid fun W' hb => HBw.out _ (HB.out.trans (hb.mono HB.out.size))
        clear HTb HB HA HT HL
        by_cases i1 : ya < 0
        · have d1 : decide (ya < 0) = true := decide_eq_true i1
          clear hin i1
          go_wp2_with (first
            | (go_at_call 11; ((with_reducible refine (HLen.out _ HR0.out).mono ?_); rintro e w5 ⟨rfl, rfl⟩))
            | (go_at_call 9; ((with_reducible refine (HAl.out _ HR0.out).mono ?_); rintro e w7 ⟨rfl, hb7⟩); have B7 := Lib.hid hb7; clear hb7)
            | (go_at_call 15; ((with_reducible refine (HLq.out _ B7.out).mono ?_); rintro e w8 ⟨rfl, hb8⟩); have B8 := Lib.hid (B7.out.trans (hb8.mono B7.out.size)); clear hb8))
          go_ret
          exact ⟨rfl, HBa.out _ B8.out⟩
        by_cases i2 : yb < 0
        · have d1 : decide (ya < 0) = false := decide_eq_false i1
          have d2 : decide (yb < 0) = true := decide_eq_true i2
          clear hin i1 i2
          go_wp2_with (first
            | (go_at_call 11; ((with_reducible refine (HLen.out _ HR0.out).mono ?_); rintro e w5 ⟨rfl, rfl⟩))
            | (go_at_call 9; ((with_reducible refine (HAl.out _ HR0.out).mono ?_); rintro e w7 ⟨rfl, hb7⟩); have B7 := Lib.hid hb7; clear hb7)
            | (go_at_call 15; ((with_reducible refine (HLq.out _ B7.out).mono ?_); rintro e w8 ⟨rfl, hb8⟩); have B8 := Lib.hid (B7.out.trans (hb8.mono B7.out.size)); clear hb8))
          go_ret
          exact ⟨rfl, HBa.out _ B8.out⟩
        by_cases i3 : (L.length : Int) ≤ ya
        · have d1 : decide (ya < 0) = false := decide_eq_false i1
          have d2 : decide (yb < 0) = false := decide_eq_false i2
          have d3 : decide ((L.length : Int) ≤ ya) = true := decide_eq_true i3
          clear hin i1 i2 i3
          go_wp2_with (first
            | (go_at_call 11; ((with_reducible refine (HLen.out _ HR0.out).mono ?_); rintro e w5 ⟨rfl, rfl⟩))
            | (go_at_call 9; ((with_reducible refine (HAl.out _ HR0.out).mono ?_); rintro e w7 ⟨rfl, hb7⟩); have B7 := Lib.hid hb7; clear hb7)
            | (go_at_call 15; ((with_reducible refine (HLq.out _ B7.out).mono ?_); rintro e w8 ⟨rfl, hb8⟩); have B8 := Lib.hid (B7.out.trans (hb8.mono B7.out.size)); clear hb8))
          go_ret
          exact ⟨rfl, HBa.out _ B8.out⟩
        · have d1 : decide (ya < 0) = false := decide_eq_false i1
          have d2 : decide (yb < 0) = false := decide_eq_false i2
          have d3 : decide ((L.length : Int) ≤ ya) = false := decide_eq_false i3
          have d4 : decide ((L.length : Int) ≤ yb) = true := decide_eq_true (by omega)
          clear hin i1 i2 i3
          go_wp2_with (first
            | (go_at_call 11; ((with_reducible refine (HLen.out _ HR0.out).mono ?_); rintro e w5 ⟨rfl, rfl⟩))
            | (go_at_call 9; ((with_reducible refine (HAl.out _ HR0.out).mono ?_); rintro e w7 ⟨rfl, hb7⟩); have B7 := Lib.hid hb7; clear hb7)
            | (go_at_call 15; ((with_reducible refine (HLq.out _ B7.out).mono ?_); rintro e w8 ⟨rfl, hb8⟩); have B8 := Lib.hid (B7.out.trans (hb8.mono B7.out.size)); clear hb8))
          go_ret
          exact ⟨rfl, HBa.out _ B8.out⟩
theorem leaf_leq_walk (x : Int) (A : Option Addr) (k c : Nat) (f : Nat → Opr) (ya yb : Int) (w : World) (ht : Tabs w) (hk : k ≤ 9223372036854775807) (_ : k ≤ c) (hA : OpRow w A k f) :
    Calls Tryd.prog 5 #[.int .i64 x, .slice A k c, .agg #[.int .i64 ya, .int .i64 yb]] w (RetB w true) := by
  by_cases hx : x < 0 ∨ 6 < x
  · exact leq_far ht hk hA (.inl hx)
  · obtain ⟨m, h0, h7, rfl⟩ : ∃ m : Nat, 0 < m ∧ m ≤ 7 ∧ x = (m : Int) - 1 := ⟨(x + 1).toNat, by omega, by omega, by omega⟩
    cases hf : fewB f k
    · exact leq_far ht hk hA (.inr ⟨m, h0, h7, rfl, hf⟩)
    · exact leq_in h0 h7 ht hk hA hf
end Go.Proofs.YtlkbapcienjdcaaDoor
