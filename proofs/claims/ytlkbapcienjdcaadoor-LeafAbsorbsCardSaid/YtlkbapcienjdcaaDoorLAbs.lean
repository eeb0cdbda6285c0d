/- LeafAbsorbs: the walk. -/
import Derived.Test.YtlkbapcienjdcaaDoorLLeqW
namespace Go.Proofs.YtlkbapcienjdcaaDoor
open Go.RowKit
attribute [local go_sem ↓] Go.wp_at_zero Go.wp_at_succ
/-- What a call that puts a zone has done, where there is room. -/
def RetRm (B p bm m lim : Nat) (L : List Lz) (R : Option Mat) (w : World) (e : Ending) (w' : World) : Prop :=
  ∃ (v' : Value) (q : List Lz) (n : Nat) (x : Lz), e = .returned (.tuple #[.int .i64 (n : Int), .int .i64 0]) ∧ LTab B p bm v' m lim (L ++ q) (L ++ q) w' ∧ Below B w w' ∧ (L ++ q).length ≤ L.length + 1 ∧ (L ++ q)[n]? = some x ∧ SameO m x.1 R
section
variable {W : World} {B p bm m lim na nb : Nat} {v : Value} {L : List Lz} {xa xb : Lz}
theorem at_room {R : Option Mat} {w w' : World} {e : Ending} (h0 : 0 < m) (hl : L.length < lim) (h : RetP B p bm v m lim L R w e w') : RetRm B p bm m lim L R w e w' := by
  obtain ⟨v', L', i, r, rfl, hT, hb, -, hO⟩ := h
  obtain rfl := putO_room hO hl
  obtain ⟨hlen, q, rfl⟩ := putO_more hO
  obtain ⟨n, x, rfl, hx, hs⟩ := putO_at h0 hO
  exact ⟨v', q, n, x, rfl, hT, hb, hlen, hx, hs⟩
theorem join_at (h0 : 0 < m) (h7 : m ≤ 7) (hT : LTab B p bm v m lim L L W) (hl : L.length < lim) (hm : lim ≤ 1000) (ha : L[na]? = some xa) (hb : L[nb]? = some xb) (ht : ∀ W', Below B W W' → Tabs W') :
    Calls Tryd.prog 16 #[.pointer (some ⟨p, 0, none⟩), .int .i64 (na : Int), .int .i64 (nb : Int)] W (RetRm B p bm m lim L (jnO m m xa.1 xb.1) W) :=
  (joinT_any h0 h7 (by omega) hT ht).mono fun e w' hr => by
    rcases hr.1 with ⟨_, h2⟩ | ⟨h1, _⟩
    · rw [at_z ha, at_z hb] at h2; exact at_room h0 hl h2
    · rw [(at_of ha).1, (at_of hb).1] at h1; cases h1
theorem meet_at (h0 : 0 < m) (h7 : m ≤ 7) (hT : LTab B p bm v m lim L L W) (hl : L.length < lim) (hm : lim ≤ 1000) (ha : L[na]? = some xa) (hb : L[nb]? = some xb) (ht : ∀ W', Below B W W' → Tabs W') :
    Calls Tryd.prog 18 #[.pointer (some ⟨p, 0, none⟩), .int .i64 (na : Int), .int .i64 (nb : Int)] W (RetRm B p bm m lim L (mtO m m xa.1 xb.1) W) :=
  (meetT_any h0 h7 (by omega) hT ht).mono fun e w' hr => by
    rcases hr.1 with ⟨_, h2⟩ | ⟨h1, _⟩
    · rw [at_z ha, at_z hb] at h2; exact at_room h0 hl h2
    · rw [(at_of ha).1, (at_of hb).1] at h1; cases h1
end
set_option maxRecDepth 100000 in
set_option maxHeartbeats 1600000 in
/-- No table, or too many calls. -/
theorem abs_far {w : World} {x : Int} {A : Option Addr} {k c : Nat} {f : Nat → Opr} {ya yb : Int} (ht : Tabs w) (hk : k ≤ 9223372036854775807) (hA : OpRow w A k f) (h : (x < 0 ∨ 6 < x) ∨ ∃ m : Nat, 0 < m ∧ m ≤ 7 ∧ x = (m : Int) - 1 ∧ fewB f k = false) :
    Calls Tryd.prog 6 #[.int .i64 x, .slice A k c, .agg #[.int .i64 ya, .int .i64 yb]] w (RetB w true) := by
  have HTw : Hid (∀ W', Below w.heap.size w W' → Tabs W') := Lib.hid fun W' hb => ht.stays hb
  have HF0 : Hid (∀ W', Below w.heap.size w W' → Calls Tryd.prog 8 #[.slice A k c] W' (RetB W' (fewB f k))) := Lib.hid fun W' hb => few_any hk (hA.below hb)
  have HH := Lib.hid h
  clear ht hk hA h
  obtain ⟨⟨y0, y1⟩, hby, hly⟩ := two_box w ya yb _ rfl
  have HB0 := Lib.hid hby
  have HLy := Lib.hid hly
  have HY := Lib.hid (And.intro y0 y1)
  clear y0 y1 hby hly
  go_enter Tryd.func6, Tryd.ntmps6
  go_wp2_with fail
  obtain ⟨wb, hwb⟩ : ∃ x, w.alloc (.cells #[.int .i64 ya, .int .i64 yb] 45) = x := ⟨_, rfl⟩
  rw [hwb] at HB0 HLy HY ⊢
  clear hwb
  have HNo : Hid (x < 0 ∨ 6 < x → Calls Tryd.prog 7 #[.int .i64 x, .int .i64 200] wb (fun e w' => e = .returned (.tuple #[.pointer none, .int .i64 1]) ∧ wb = w')) := Lib.hid fun h => new_out (by omega)
  have h := HH.out
  clear HH
  rcases h with h | ⟨m, h0, h7, rfl, hf⟩
  · have HN1 := Lib.hid (HNo.out h)
    clear h HNo
    go_wp2_with (first
      | (go_at_call 7; ((with_reducible refine (HN1.out).mono ?_); rintro e w1 ⟨rfl, rfl⟩))
      | (go_at_call 9; ((with_reducible refine (alive_any _ (HTw.out _ HB0.out)).mono ?_); rintro e w3 ⟨rfl, hb3⟩); have B3 := Lib.hid (HB0.out.trans (hb3.mono HB0.out.size)); clear hb3))
    go_ret
    exact ⟨rfl, B3.out⟩
  · have HNw : Hid (Calls Tryd.prog 7 #[.int .i64 ((m : Int) - 1), .int .i64 200] wb (RetN m 200 wb)) := Lib.hid (new_in (lim := 200) h0 h7 (by decide) (HTw.out _ HB0.out))
    rw [hf] at HF0
    clear hf HNo
    go_wp2_with (first
      | (go_at_call 7; ((with_reducible refine (HNw.out).mono ?_); rintro e w1 ⟨p, bm, v1, A0, c0, A1, c1, rfl, hT1, hb1⟩); have B1 := Lib.hid (HB0.out.trans (hb1.mono HB0.out.size)); clear hT1 hb1)
      | (go_at_call 8; ((with_reducible refine (HF0.out _ B1.out).mono ?_); rintro e w2 ⟨rfl, hb2⟩); have B2 := Lib.hid (B1.out.trans (hb2.mono B1.out.size)); clear hb2)
      | (go_at_call 9; ((with_reducible refine (alive_any _ (HTw.out _ B2.out)).mono ?_); rintro e w3 ⟨rfl, hb3⟩); have B3 := Lib.hid (B2.out.trans (hb3.mono B2.out.size)); clear hb3))
    go_ret
    exact ⟨rfl, B3.out⟩
set_option maxRecDepth 100000 in
set_option maxHeartbeats 6400000 in
theorem abs_in {w : World} {m k c : Nat} {A : Option Addr} {f : Nat → Opr} {ya yb : Int} (h0 : 0 < m) (h7 : m ≤ 7) (ht : Tabs w) (hk : k ≤ 9223372036854775807) (hA : OpRow w A k f) (hf : fewB f k = true) :
    Calls Tryd.prog 6 #[.int .i64 ((m : Int) - 1), .slice A k c, .agg #[.int .i64 ya, .int .i64 yb]] w (RetB w true) := by
  have HTw : Hid (∀ W', Below w.heap.size w W' → Tabs W') := Lib.hid fun W' hb => ht.stays hb
  have HF0 : Hid (∀ W', Below w.heap.size w W' → Calls Tryd.prog 8 #[.slice A k c] W' (RetB W' (fewB f k))) := Lib.hid fun W' hb => few_any hk (hA.below hb)
  have HK4 : Hid (k ≤ 40) := Lib.hid (by unfold fewB at hf; simp only [Bool.and_eq_true, decide_eq_true_eq] at hf; exact hf.1)
  rw [hf] at HF0
  have HA0 := Lib.hid hA
  have HK := Lib.hid hk
  have H0 := Lib.hid h0
  have H7 := Lib.hid h7
  clear ht hk hA hf h0 h7
  obtain ⟨⟨y0, y1⟩, hby, hly⟩ := two_box w ya yb _ rfl
  have HB0 := Lib.hid hby
  have HLy := Lib.hid hly
  have HY := Lib.hid (And.intro y0 y1)
  clear y0 y1 hby hly
  go_enter Tryd.func6, Tryd.ntmps6
  go_wp2_with fail
  obtain ⟨wb, hwb⟩ : ∃ x, w.alloc (.cells #[.int .i64 ya, .int .i64 yb] 45) = x := ⟨_, rfl⟩
  rw [hwb] at HB0 HLy HY ⊢
  clear hwb
  have HNw : Hid (Calls Tryd.prog 7 #[.int .i64 ((m : Int) - 1), .int .i64 200] wb (RetN m 200 wb)) := Lib.hid (new_in (lim := 200) H0.out H7.out (by decide) (HTw.out _ HB0.out))
  have HT : Hid (∀ W', Below wb.heap.size wb W' → Tabs W') := Lib.hid fun W' hb => HTw.out _ (HB0.out.trans (hb.mono HB0.out.size))
  have HFw : Hid (∀ W', Below wb.heap.size wb W' → Calls Tryd.prog 8 #[.slice A k c] W' (RetB W' true)) := Lib.hid fun W' hb => HF0.out _ (HB0.out.trans (hb.mono HB0.out.size))
  have HA := Lib.hid (HA0.out.below HB0.out)
  clear HTw HF0 HA0
  go_wp2_with (first
    | (go_at_call 7; ((with_reducible refine (HNw.out).mono ?_); rintro e w1 ⟨p, bm, v1, A0, c0, A1, c1, rfl, hT1, hb1⟩); have T1 := Lib.hid hT1; have B1 := Lib.hid hb1; clear hT1 hb1)
    | (go_at_call 8; ((with_reducible refine (HFw.out _ B1.out).mono ?_); rintro e w2 ⟨rfl, hb2⟩); have T2 := Lib.hid (T1.out.below hb2); have B2 := Lib.hid (B1.out.trans (hb2.mono B1.out.size)); clear hb2))
  clear T1 B1 HNw HFw
  go_loopw [40] (fun i wr => ∃ (q : Nat) (v : Value) (L : List Lz), q ≤ k ∧ i = .int .i64 q ∧ LTab wb.heap.size p bm v m 200 L L wr ∧ Below wb.heap.size wb wr ∧ L.length ≤ q + 2) (fun i _ => k - (intOf i).toNat)
  case atStart => exact ⟨0, _, _, Nat.zero_le _, rfl, T2.out, B2.out, by simp⟩
  case round =>
    obtain ⟨q, v, L, hq, rfl, hT, hb, hL⟩ := hrel
    have HQ := Lib.hid hq
    have HTb := Lib.hid hT
    have HB := Lib.hid hb
    have HL := Lib.hid hL
    clear hq hT hb hL T2 B2
    by_cases hlt : q < k
    · have e1 : decide ((q : Int) < (k : Int)) = true := decide_eq_true (by omega)
      have wq : IntKind.i64.wrap ((q : Int) + 1) = (q : Int) + 1 := IntWalk.i64_in _ (by have := HK.out; omega)
      obtain ⟨b', off, rfl, hbl, hcells⟩ := (HA.out.below HB.out) (by omega)
      obtain ⟨ho, hc⟩ := hcells q hlt
      have c0 : wr.cell? ⟨b', off + q * 6, none⟩ = _ := hc 0 _ rfl
      have c1 := hc 1 _ rfl
      have c2 := hc 2 _ rfl
      have c3 := hc 3 _ rfl
      have c4 := hc 4 _ rfl
      have c5 := hc 5 _ rfl
      clear hcells hc
      obtain ⟨o, hoe⟩ : ∃ o, f q = o := ⟨_, rfl⟩
      rw [hoe] at c0 c1 c2 c3 c4 c5 ho
      obtain ⟨kd, a, b, N, Az, mz, cz, fz, As, ms, cs, fs⟩ := o
      dsimp only at c0 c1 c2 c3 c4 c5
      obtain ⟨⟨x0, x1, x2, x3, x4, x5⟩, hb1, hlt1⟩ := op_box wr kd a b N Az As mz cz ms cs _ rfl
      have HB1 := Lib.hid (HB.out.trans (hb1.mono HB.out.size))
      have HDo : Hid (Calls Tryd.prog 10 #[.pointer (some ⟨p, 0, none⟩), .agg #[.int .i64 kd, .int .i64 a, .int .i64 b, .int .i64 N, .slice Az mz cz, .slice As ms cs]] (wr.alloc (.cells #[.int .i64 kd, .int .i64 a, .int .i64 b, .int .i64 N, .slice Az mz cz, .slice As ms cs] 33)) (RetDo wb.heap.size p bm v m 200 L (want m L ⟨kd, a, b, N, Az, mz, cz, fz, As, ms, cs, fs⟩) (wr.alloc (.cells #[.int .i64 kd, .int .i64 a, .int .i64 b, .int .i64 N, .slice Az mz cz, .slice As ms cs] 33)))) := Lib.hid
        (does_any (o := ⟨kd, a, b, N, Az, mz, cz, fz, As, ms, cs, fs⟩) H0.out H7.out (by have := HL.out; have := HK4.out; have := HQ.out; omega) (HTb.out.below hb1) (ho.below hb1) (fun W' hb' => HT.out _ (HB1.out.trans hb')))
      clear hb1 hoe ho
      go_wp2_with (go_at_call 10; ((with_reducible refine (HDo.out).mono ?_); rintro e w4 ⟨v4, L4, i4, r4, rfl, hT4, hb4, hs4, hd4⟩); have T4 := Lib.hid hT4; have B4 := Lib.hid (HB1.out.trans hb4); have D4 := Lib.hid hd4; clear hT4 hb4 hs4 hd4)
      exact ⟨⟨q + 1, v4, L4, by omega, rfl, T4.out, B4.out, by have := (doO_more D4.out).1; have := HL.out; omega⟩, by show k - ((q : Int) + 1).toNat < k - ((q : Int)).toNat; omega⟩
    · have e1 : decide ((q : Int) < (k : Int)) = false := decide_eq_false (by omega)
      have e3 : decide (q < k) = false := decide_eq_false hlt
      have HL4 : Hid (L.length ≤ 42) := Lib.hid (by have := HL.out; have := HK4.out; have := HQ.out; omega)
      clear hlt
      have y0 : wr.cell? ⟨w.heap.size, 0, none⟩ = some (.int .i64 ya) := (HB.out.cell (p := ⟨w.heap.size, 0, none⟩) HLy.out).trans HY.out.1
      have y1 : wr.cell? ⟨w.heap.size, 1, none⟩ = some (.int .i64 yb) := (HB.out.cell (p := ⟨w.heap.size, 1, none⟩) HLy.out).trans HY.out.2
      go_wp2_with fail
      go_quiet ((fail))
      have HTn : Hid (LTab wb.heap.size p bm v m 200 L L (wr.drewN nq)) := Lib.hid (HTb.out.below (drewN_low _ _))
      have HBn : Hid (Below wb.heap.size wb (wr.drewN nq)) := Lib.hid (HB.out.trans ((drewN_low _ _).mono HB.out.size))
      obtain ⟨wa, hwa⟩ : ∃ x, wr.drewN nq = x := ⟨_, rfl⟩
      rw [hwa] at HTn HBn ⊢
      clear hwa HTb HB y0 y1
      have HBw : Hid (∀ W', Below wb.heap.size wb W' → Below w.heap.size w W') := Lib.hid fun W' hb => HB0.out.trans (hb.mono HB0.out.size)
      have HLen : Hid (∀ W', Below wa.heap.size wa W' → Calls Tryd.prog 11 #[.pointer (some ⟨p, 0, none⟩)] W' (fun e w' => e = .returned (.int .i64 (L.length : Int)) ∧ W' = w')) := Lib.hid fun W' hb => len_any (HTn.out.below hb)
      have HR0 := Lib.hid (Below.refl wa.heap.size wa)
      have HAl : Hid (∀ W', Below wb.heap.size wb W' → Calls Tryd.prog 9 #[] W' (RetB W' true)) := Lib.hid fun W' hb => alive_any _ (HT.out _ hb)
      by_cases hin : (¬ ya < 0 ∧ ¬ yb < 0) ∧ ya < (L.length : Int) ∧ yb < (L.length : Int)
      · obtain ⟨⟨ia, ib⟩, la, lb⟩ := hin
        have d1 : decide (ya < 0) = false := decide_eq_false ia
        have d2 : decide (yb < 0) = false := decide_eq_false ib
        have d3 : decide ((L.length : Int) ≤ ya) = false := decide_eq_false (by omega)
        have d4 : decide ((L.length : Int) ≤ yb) = false := decide_eq_false (by omega)
        have k3 : decide (L.length ≤ ya.toNat) = false := decide_eq_false (by omega)
        have k4 : decide (L.length ≤ yb.toNat) = false := decide_eq_false (by omega)
        obtain ⟨na, rfl⟩ : ∃ n : Nat, ya = (n : Int) := ⟨ya.toNat, by omega⟩
        obtain ⟨nb, rfl⟩ : ∃ n : Nat, yb = (n : Int) := ⟨yb.toNat, by omega⟩
        obtain ⟨xa, hxa⟩ : ∃ x, L[na]? = some x := ⟨_, List.getElem?_eq_getElem (by omega)⟩
        obtain ⟨xb, hxb⟩ : ∃ x, L[nb]? = some x := ⟨_, List.getElem?_eq_getElem (by omega)⟩
        have HXa := Lib.hid hxa
        have HXb := Lib.hid hxb
        have HCl : Hid (∀ C, xa.1 = some C → Closed m C) := Lib.hid (zres_closed (HTn.out.zs na xa hxa))
        rw [Int.toNat_natCast] at k3 k4
        clear ia ib la lb hxa hxb
        go_wp2_with (first
          | (go_at_call 11; ((with_reducible refine (HLen.out _ HR0.out).mono ?_); rintro e w5 ⟨rfl, rfl⟩))
          | (go_at_call 18; ((with_reducible refine (meet_at H0.out H7.out HTn.out (by have := HL4.out; omega) (by decide) HXa.out HXb.out (fun W' hb' => HT.out _ (HBn.out.trans hb'))).mono ?_); rintro e w6 ⟨v6, q6, n6, x6, rfl, hT6, hb6, hl6, hx6, hs6⟩); have T6 := Lib.hid hT6; have B6 := Lib.hid (HBn.out.trans hb6); have M6 := Lib.hid hl6; have X6 := Lib.hid hx6; have S6 := Lib.hid hs6; clear hT6 hb6 hs6 hl6 hx6)
          | (go_at_call 16; ((with_reducible refine (join_at H0.out H7.out T6.out (by have := HL4.out; have := M6.out; omega) (by decide) (prefix_at HXa.out) X6.out (fun W' hb' => HT.out _ (B6.out.trans hb'))).mono ?_); rintro e w7 ⟨v7, q7, n7, x7, rfl, hT7, hb7, hl7, hx7, hs7⟩);
             obtain rfl : n7 = na := same_at hT7 hx7 (prefix_at (prefix_at HXa.out)) (so_trans hs7 (jn_left (by rw [leq_congrL S6.out]; exact mt_le m _ _)));
             have T7 := Lib.hid hT7; have B7 := Lib.hid (B6.out.trans hb7); have M7 := Lib.hid hl7; clear hT7 hb7 hs7 hl7 hx7)
          | (go_at_call 16; ((with_reducible refine (join_at H0.out H7.out T7.out (by have := HL4.out; have := M6.out; have := M7.out; omega) (by decide) (prefix_at (prefix_at HXa.out)) (prefix_at (prefix_at HXb.out)) (fun W' hb' => HT.out _ (B7.out.trans hb'))).mono ?_); rintro e w8 ⟨v8, q8, n8, x8, rfl, hT8, hb8, hl8, hx8, hs8⟩);
             have T8 := Lib.hid hT8; have B8 := Lib.hid (B7.out.trans hb8); have M8 := Lib.hid hl8; have X8 := Lib.hid hx8; have S8 := Lib.hid hs8; clear hT8 hb8 hs8 hl8 hx8)
          | (go_at_call 18; ((with_reducible refine (meet_at H0.out H7.out T8.out (by have := HL4.out; have := M6.out; have := M7.out; have := M8.out; omega) (by decide) (prefix_at (prefix_at (prefix_at HXa.out))) X8.out (fun W' hb' => HT.out _ (B8.out.trans hb'))).mono ?_); rintro e w9 ⟨v9, q9, n9, x9, rfl, hT9, hb9, hl9, hx9, hs9⟩);
             have N9 : Hid (n9 = _) := Lib.hid (same_at hT9 hx9 (prefix_at (prefix_at (prefix_at (prefix_at HXa.out)))) (so_trans hs9 (mt_left HCl.out (by rw [leq_congr S8.out]; exact jn_ge1 m _ _))));
             have B9 := Lib.hid (B8.out.trans hb9); have n9e := N9.out; subst n9e; clear hT9 hb9 hs9 hl9 hx9)
          | (go_at_call 9; ((with_reducible refine (HAl.out _ B9.out).mono ?_); rintro e w10 ⟨rfl, hb10⟩); have B10 := Lib.hid (B9.out.trans (hb10.mono B9.out.size)); clear hb10))
        go_ret
        exact ⟨rfl, HBw.out _ B10.out⟩
      · clear HTn HT HL
        by_cases i1 : ya < 0
        · have d1 : decide (ya < 0) = true := decide_eq_true i1
          clear hin i1
          go_wp2_with (first
            | (go_at_call 11; ((with_reducible refine (HLen.out _ HR0.out).mono ?_); rintro e w5 ⟨rfl, rfl⟩))
            | (go_at_call 9; ((with_reducible refine (HAl.out _ HBn.out).mono ?_); rintro e w7 ⟨rfl, hb7⟩); have B7 := Lib.hid (HBn.out.trans (hb7.mono HBn.out.size)); clear hb7))
          go_ret
          exact ⟨rfl, HBw.out _ B7.out⟩
        by_cases i2 : yb < 0
        · have d1 : decide (ya < 0) = false := decide_eq_false i1
          have d2 : decide (yb < 0) = true := decide_eq_true i2
          clear hin i1 i2
          go_wp2_with (first
            | (go_at_call 11; ((with_reducible refine (HLen.out _ HR0.out).mono ?_); rintro e w5 ⟨rfl, rfl⟩))
            | (go_at_call 9; ((with_reducible refine (HAl.out _ HBn.out).mono ?_); rintro e w7 ⟨rfl, hb7⟩); have B7 := Lib.hid (HBn.out.trans (hb7.mono HBn.out.size)); clear hb7))
          go_ret
          exact ⟨rfl, HBw.out _ B7.out⟩
        by_cases i3 : (L.length : Int) ≤ ya
        · have d1 : decide (ya < 0) = false := decide_eq_false i1
          have d2 : decide (yb < 0) = false := decide_eq_false i2
          have d3 : decide ((L.length : Int) ≤ ya) = true := decide_eq_true i3
          clear hin i1 i2 i3
          go_wp2_with (first
            | (go_at_call 11; ((with_reducible refine (HLen.out _ HR0.out).mono ?_); rintro e w5 ⟨rfl, rfl⟩))
            | (go_at_call 9; ((with_reducible refine (HAl.out _ HBn.out).mono ?_); rintro e w7 ⟨rfl, hb7⟩); have B7 := Lib.hid (HBn.out.trans (hb7.mono HBn.out.size)); clear hb7))
          go_ret
          exact ⟨rfl, HBw.out _ B7.out⟩
        · have d1 : decide (ya < 0) = false := decide_eq_false i1
          have d2 : decide (yb < 0) = false := decide_eq_false i2
          have d3 : decide ((L.length : Int) ≤ ya) = false := decide_eq_false i3
          have d4 : decide ((L.length : Int) ≤ yb) = true := decide_eq_true (by omega)
          clear hin i1 i2 i3
          go_wp2_with (first
            | (go_at_call 11; ((with_reducible refine (HLen.out _ HR0.out).mono ?_); rintro e w5 ⟨rfl, rfl⟩))
            | (go_at_call 9; ((with_reducible refine (HAl.out _ HBn.out).mono ?_); rintro e w7 ⟨rfl, hb7⟩); have B7 := Lib.hid (HBn.out.trans (hb7.mono HBn.out.size)); clear hb7))
          go_ret
          exact ⟨rfl, HBw.out _ B7.out⟩
theorem leaf_absorbs_walk (x : Int) (A : Option Addr) (k c : Nat) (f : Nat → Opr) (ya yb : Int) (w : World) (ht : Tabs w) (hk : k ≤ 9223372036854775807) (_ : k ≤ c) (hA : OpRow w A k f) :
    Calls Tryd.prog 6 #[.int .i64 x, .slice A k c, .agg #[.int .i64 ya, .int .i64 yb]] w (RetB w true) := by
  by_cases hx : x < 0 ∨ 6 < x
  · exact abs_far ht hk hA (.inl hx)
  · obtain ⟨m, h0, h7, rfl⟩ : ∃ m : Nat, 0 < m ∧ m ≤ 7 ∧ x = (m : Int) - 1 := ⟨(x + 1).toNat, by omega, by omega, by omega⟩
    cases hf : fewB f k
    · exact abs_far ht hk hA (.inr ⟨m, h0, h7, rfl, hf⟩)
    · exact abs_in h0 h7 ht hk hA hf
end Go.Proofs.YtlkbapcienjdcaaDoor
