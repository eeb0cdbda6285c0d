/- LeafOnce: the walk. -/
import Derived.Test.YtlkbapcienjdcaaDoorLMath
namespace Go.Proofs.YtlkbapcienjdcaaDoor
open Go.RowKit
attribute [local go_sem ↓] Go.wp_at_zero Go.wp_at_succ

set_option maxRecDepth 100000 in
set_option maxHeartbeats 1600000 in
/-- No table, or too many calls. -/
theorem once_far {w : World} {x : Int} {A : Option Addr} {k c : Nat} {f : Nat → Opr} (ht : Tabs w) (hk : k ≤ 9223372036854775807) (hA : OpRow w A k f) (h : (x < 0 ∨ 6 < x) ∨ ∃ m : Nat, 0 < m ∧ m ≤ 7 ∧ x = (m : Int) - 1 ∧ fewB f k = false) :
    Calls Tryd.prog 3 #[.int .i64 x, .slice A k c] w (RetB w true) := by
  have HT : Hid (∀ W', Below w.heap.size w W' → Tabs W') := Lib.hid fun W' hb => ht.stays hb
  have HFw : Hid (∀ W', Below w.heap.size w W' → Calls Tryd.prog 8 #[.slice A k c] W' (RetB W' (fewB f k))) := Lib.hid fun W' hb => few_any hk (hA.below hb)
  rcases h with h | ⟨m, h0, h7, rfl, hf⟩
  · have HNo : Hid (Calls Tryd.prog 7 #[.int .i64 x, .int .i64 50] w (fun e w' => e = .returned (.tuple #[.pointer none, .int .i64 1]) ∧ w = w')) := Lib.hid (new_out (by omega))
    clear h ht hk hA HFw
    go_enter Tryd.func3, Tryd.ntmps3
    go_wp2_with (first
      | (go_at_call 7; ((with_reducible refine (HNo.out).mono ?_); rintro e w1 ⟨rfl, rfl⟩))
      | (go_at_call 9; ((with_reducible refine (alive_any _ (HT.out _ (Below.refl _ _))).mono ?_); rintro e w3 ⟨rfl, hb3⟩)))
    go_ret
    exact ⟨rfl, hb3⟩
  · have HNw : Hid (Calls Tryd.prog 7 #[.int .i64 ((m : Int) - 1), .int .i64 50] w (RetN m 50 w)) := Lib.hid (new_in (lim := 50) h0 h7 (by decide) ht)
    rw [hf] at HFw
    clear ht hk hA hf
    go_enter Tryd.func3, Tryd.ntmps3
    go_wp2_with (first
      | (go_at_call 7; ((with_reducible refine (HNw.out).mono ?_); rintro e w1 ⟨p, bm, v1, A0, c0, A1, c1, rfl, hT1, hb1⟩); have B1 := Lib.hid hb1; clear hT1 hb1)
      | (go_at_call 8; ((with_reducible refine (HFw.out _ B1.out).mono ?_); rintro e w2 ⟨rfl, hb2⟩); have B2 := Lib.hid (B1.out.trans (hb2.mono B1.out.size)); clear hb2)
      | (go_at_call 9; ((with_reducible refine (alive_any _ (HT.out _ B2.out)).mono ?_); rintro e w3 ⟨rfl, hb3⟩); have B3 := Lib.hid (B2.out.trans (hb3.mono B2.out.size)); clear hb3))
    go_ret
    exact ⟨rfl, B3.out⟩
set_option maxRecDepth 100000 in
set_option maxHeartbeats 6400000 in
theorem once_in {w : World} {m k c : Nat} {A : Option Addr} {f : Nat → Opr} (h0 : 0 < m) (h7 : m ≤ 7) (ht : Tabs w) (hk : k ≤ 9223372036854775807) (hA : OpRow w A k f) (hf : fewB f k = true) :
    Calls Tryd.prog 3 #[.int .i64 ((m : Int) - 1), .slice A k c] w (RetB w true) := by
  have HT : Hid (∀ W', Below w.heap.size w W' → Tabs W') := Lib.hid fun W' hb => ht.stays hb
  have HFw : Hid (∀ W', Below w.heap.size w W' → Calls Tryd.prog 8 #[.slice A k c] W' (RetB W' true)) := Lib.hid fun W' hb => by rw [← hf]; exact few_any hk (hA.below hb)
  have HNw : Hid (Calls Tryd.prog 7 #[.int .i64 ((m : Int) - 1), .int .i64 50] w (RetN m 50 w)) := Lib.hid (new_in (lim := 50) h0 h7 (by decide) ht)
  have HA := Lib.hid hA
  have HK := Lib.hid hk
  have H0 := Lib.hid h0
  have H7 := Lib.hid h7
  clear ht hk hA hf h0 h7
  go_enter Tryd.func3, Tryd.ntmps3
  go_wp2_with (first
    | (go_at_call 7; ((with_reducible refine (HNw.out).mono ?_); rintro e w1 ⟨p, bm, v1, A0, c0, A1, c1, rfl, hT1, hb1⟩); have T1 := Lib.hid hT1; have B1 := Lib.hid hb1; clear hT1 hb1)
    | (go_at_call 8; ((with_reducible refine (HFw.out _ B1.out).mono ?_); rintro e w2 ⟨rfl, hb2⟩); have T2 := Lib.hid (T1.out.below hb2); have B2 := Lib.hid (B1.out.trans (hb2.mono B1.out.size)); clear hb2))
  clear T1 B1 HNw HFw
  go_loopw [32] (fun i wr => ∃ (q : Nat) (v : Value) (L : List Lz), q ≤ k ∧ i = .int .i64 q ∧ LTab w.heap.size p bm v m 50 L L wr ∧ Below w.heap.size w wr ∧ L.length ≤ 50) (fun i _ => k - (intOf i).toNat)
  case atStart => exact ⟨0, _, _, Nat.zero_le _, rfl, T2.out, B2.out, by simp⟩
  case round =>
    obtain ⟨q, v, L, hq, rfl, hT, hb, hL⟩ := hrel
    have HQ := Lib.hid hq
    have HTb := Lib.hid hT
    have HB := Lib.hid hb
    have HL := Lib.hid hL
    clear hq hT hb hL T2 B2
    by_cases hlt : q < k
    · have e1 : decide ((q : Int) < (k : Int)) = true := decide_eq_true (by omega)
      have wq : IntKind.i64.wrap ((q : Int) + 1) = (q : Int) + 1 := IntWalk.i64_in _ (by have := HK.out; omega)
      obtain ⟨b', off, rfl, hbl, hcells⟩ := (HA.out.below HB.out) (by omega)
      obtain ⟨ho, hc⟩ := hcells q hlt
      have c0 : wr.cell? ⟨b', off + q * 6, none⟩ = _ := hc 0 _ rfl
      have c1 := hc 1 _ rfl
      have c2 := hc 2 _ rfl
      have c3 := hc 3 _ rfl
      have c4 := hc 4 _ rfl
      have c5 := hc 5 _ rfl
      clear hcells hc
      obtain ⟨o, hoe⟩ : ∃ o, f q = o := ⟨_, rfl⟩
      rw [hoe] at c0 c1 c2 c3 c4 c5 ho
      obtain ⟨kd, a, b, N, Az, mz, cz, fz, As, ms, cs, fs⟩ := o
      dsimp only at c0 c1 c2 c3 c4 c5
      obtain ⟨⟨x0, x1, x2, x3, x4, x5⟩, hb1, hlt1⟩ := op_box wr kd a b N Az As mz cz ms cs _ rfl
      have HB1 := Lib.hid (HB.out.trans (hb1.mono HB.out.size))
      have HDo : Hid (Calls Tryd.prog 10 #[.pointer (some ⟨p, 0, none⟩), .agg #[.int .i64 kd, .int .i64 a, .int .i64 b, .int .i64 N, .slice Az mz cz, .slice As ms cs]] (wr.alloc (.cells #[.int .i64 kd, .int .i64 a, .int .i64 b, .int .i64 N, .slice Az mz cz, .slice As ms cs] 33)) (RetDo w.heap.size p bm v m 50 L (want m L ⟨kd, a, b, N, Az, mz, cz, fz, As, ms, cs, fs⟩) (wr.alloc (.cells #[.int .i64 kd, .int .i64 a, .int .i64 b, .int .i64 N, .slice Az mz cz, .slice As ms cs] 33)))) := Lib.hid
        (does_any (o := ⟨kd, a, b, N, Az, mz, cz, fz, As, ms, cs, fs⟩) H0.out H7.out (by have := HL.out; omega) (HTb.out.below hb1) (ho.below hb1) (fun W' hb' => HT.out _ (HB1.out.trans hb')))
      clear hb1 hoe ho
      go_wp2_with (go_at_call 10; ((with_reducible refine (HDo.out).mono ?_); rintro e w4 ⟨v4, L4, i4, r4, rfl, hT4, hb4, hs4, hd4⟩); have T4 := Lib.hid hT4; have B4 := Lib.hid (HB1.out.trans hb4); have D4 := Lib.hid hd4; clear hT4 hb4 hs4 hd4)
      exact ⟨⟨q + 1, v4, L4, by omega, rfl, T4.out, B4.out, doO_len D4.out HL.out⟩, by show k - ((q : Int) + 1).toNat < k - ((q : Int)).toNat; omega⟩
    · have e1 : decide ((q : Int) < (k : Int)) = false := decide_eq_false (by omega)
      have e3 : decide (q < k) = false := decide_eq_false hlt
      clear hlt
      obtain ⟨wa, rfl⟩ : ∃ x, x = wr := ⟨_, rfl⟩
      have HGet : Hid (∀ (W' : World) (i : Nat) (x : Lz), Below wa.heap.size wa W' → L[i]? = some x → Calls Tryd.prog 13 #[.pointer (some ⟨p, 0, none⟩), .int .i64 (i : Int)] W' (RetC W' m x.1)) := Lib.hid fun W' i x hb hx => by
        have q := get_any' H0.out H7.out (HTb.out.below hb) (i : Int)
        rw [(at_of hx).2] at q
        exact q
      have HFind : Hid (∀ (W' : World) (i : Nat) (x : Lz) (base : Nat) (A : Option Addr) (c : Nat), Below wa.heap.size wa W' → L[i]? = some x → ZRes W' base m x.1 (zoneV ((m : Int) - 1) A (rlen m x.1) c) → Calls Tryd.prog 12 #[.pointer (some ⟨p, 0, none⟩), zoneV ((m : Int) - 1) A (rlen m x.1) c] W' (fun e w' => e = .returned (.tuple #[.int .i64 (i : Int), .bool true]) ∧ Below W'.heap.size W' w')) := Lib.hid fun W' i x base A c hb hx z => by
        refine (find_in H0.out H7.out (HTb.out.below hb) (zres_closed z) (HT.out _ (HB.out.trans (hb.mono HB.out.size))) (fun W1 hb1 => close_back H0.out H7.out (z.below hb1))).mono fun e w' ⟨y, he, hy, hb2⟩ => ?_
        have hi := idx_at HTb.out hx
        rw [hi] at he hy
        rw [hy _ rfl] at he
        exact ⟨he, hb2⟩
      have HSame : Hid (∀ (W' : World) (i j : Nat) (x y : Lz) (b1 b2 : Nat) (A1 A2 : Option Addr) (c1 c2 : Nat), L[i]? = some x → L[j]? = some y → i ≠ j → ZRes W' b1 m x.1 (zoneV ((m : Int) - 1) A1 (rlen m x.1) c1) → ZRes W' b2 m y.1 (zoneV ((m : Int) - 1) A2 (rlen m y.1) c2) → Calls Tryd.prog 14 #[zoneV ((m : Int) - 1) A1 (rlen m x.1) c1, zoneV ((m : Int) - 1) A2 (rlen m y.1) c2] W' (RetB W' false)) := Lib.hid fun W' i j x y b1 b2 A1 A2 c1 c2 hx hy hij z1 z2 => by
        have h := same_any (w := W') (Ra := x.1) (Rb := y.1) H0.out H7.out (fun _ hW => close_back H0.out H7.out (z1.below hW)) (fun _ hW => close_back H0.out H7.out (z2.below hW))
        rw [same_not HTb.out hx hy hij] at h
        exact h
      have HLen : Hid (∀ W', Below wa.heap.size wa W' → Calls Tryd.prog 11 #[.pointer (some ⟨p, 0, none⟩)] W' (fun e w' => e = .returned (.int .i64 (L.length : Int)) ∧ W' = w')) := Lib.hid fun W' hb => len_any (HTb.out.below hb)
      have HB0 := Lib.hid (Below.refl wa.heap.size wa)
      clear HTb HA
      go_wp2_with (go_at_call 11; ((with_reducible refine (HLen.out _ HB0.out).mono ?_); rintro e w5 ⟨rfl, rfl⟩))
      go_loopw [42] (fun i wx => ∃ q2 : Nat, q2 ≤ L.length ∧ i = .int .i64 q2 ∧ Below wa.heap.size wa wx) (fun i _ => L.length - (intOf i).toNat)
      case atStart => exact ⟨0, Nat.zero_le _, rfl, HB0.out⟩
      case round =>
        obtain ⟨q2, hq2, rfl, hbx⟩ := hrel
        have HBx := Lib.hid hbx
        clear hbx
        by_cases hl2 : q2 < L.length
        · have g1 : decide ((q2 : Int) < (L.length : Int)) = true := decide_eq_true (by omega)
          have wq2 : IntKind.i64.wrap ((q2 : Int) + 1) = (q2 : Int) + 1 := IntWalk.i64_in _ (by have := HL.out; omega)
          have hx : L[q2]? = some L[q2] := List.getElem?_eq_getElem hl2
          obtain ⟨x, hxe⟩ : ∃ x, L[q2] = x := ⟨_, rfl⟩
          rw [hxe] at hx
          clear hxe
          have HX := Lib.hid hx
          have HL2 := Lib.hid hl2
          clear hx hl2 hq2
          go_wp2_with (first
            | (go_at_call 13; ((with_reducible refine (HGet.out _ q2 x HBx.out HX.out).mono ?_); rintro e w6 ⟨A6, c6, rfl, hz6, hb6⟩); have Z6 := Lib.hid hz6; have B6 := Lib.hid (HBx.out.trans (hb6.mono HBx.out.size)); clear hz6 hb6)
            | (go_at_call 12; ((with_reducible refine (HFind.out _ q2 x _ _ _ B6.out HX.out Z6.out).mono ?_); rintro e w7 ⟨rfl, hb7⟩); have B7 := Lib.hid (B6.out.trans (hb7.mono B6.out.size)); clear hb7))
          go_loopw [61] (fun i wy => ∃ q3 : Nat, q3 ≤ q2 ∧ i = .int .i64 q3 ∧ Below wa.heap.size wa wy) (fun i _ => q2 - (intOf i).toNat)
          case atStart => exact ⟨0, Nat.zero_le _, rfl, B7.out⟩
          case round =>
            obtain ⟨q3, hq3, rfl, hby⟩ := hrel
            have HBy := Lib.hid hby
            clear hby
            by_cases hl3 : q3 < q2
            · have g2 : decide ((q3 : Int) < (q2 : Int)) = true := decide_eq_true (by omega)
              have wq3 : IntKind.i64.wrap ((q3 : Int) + 1) = (q3 : Int) + 1 := IntWalk.i64_in _ (by have := HL.out; have := HL2.out; omega)
              obtain ⟨y, hy⟩ : ∃ y, L[q3]? = some y := ⟨_, List.getElem?_eq_getElem (by have := HL2.out; omega)⟩
              have HY := Lib.hid hy
              have HL3 := Lib.hid hl3
              clear hy hl3 hq3
              go_wp2_with (first
                | (go_at_call 13; ((with_reducible refine (HGet.out _ q2 x HBy.out HX.out).mono ?_); rintro e w8 ⟨A8, c8, rfl, hz8, hb8⟩); have Z8 := Lib.hid hz8; have B8 := Lib.hid (HBy.out.trans (hb8.mono HBy.out.size)); clear hz8 hb8)
                | (go_at_call 13; ((with_reducible refine (HGet.out _ q3 y B8.out HY.out).mono ?_); rintro e w9 ⟨A9, c9, rfl, hz9, hb9⟩); have Y8 := Lib.hid (Z8.out.below hb9); have Z9 := Lib.hid hz9; have B9 := Lib.hid (B8.out.trans (hb9.mono B8.out.size)); clear hz9 hb9)
                | (go_at_call 14; ((with_reducible refine (HSame.out _ q2 q3 x y _ _ _ _ _ _ HX.out HY.out (by have := HL3.out; omega) Y8.out Z9.out).mono ?_); rintro e w10 ⟨rfl, hb10⟩); have B10 := Lib.hid (B9.out.trans (hb10.mono B9.out.size)); clear hb10))
              exact ⟨⟨q3 + 1, by have := HL3.out; omega, rfl, B10.out⟩, by have := HL3.out; show q2 - ((q3 : Int) + 1).toNat < q2 - ((q3 : Int)).toNat; omega⟩
            · have g2 : decide ((q3 : Int) < (q2 : Int)) = false := decide_eq_false (by omega)
              have g3 : decide (q3 < q2) = false := decide_eq_false hl3
              clear hl3 hq3
              go_wp2_with fail
              exact ⟨⟨q2 + 1, by have := HL2.out; omega, rfl, HBy.out⟩, by have := HL2.out; show L.length - ((q2 : Int) + 1).toNat < L.length - ((q2 : Int)).toNat; omega⟩
        · have g1 : decide ((q2 : Int) < (L.length : Int)) = false := decide_eq_false (by omega)
          have g3 : decide (q2 < L.length) = false := decide_eq_false hl2
          clear hl2 hq2
          have B11 := Lib.hid (HB.out.trans (HBx.out.mono HB.out.size))
          go_wp2_with (go_at_call 9; ((with_reducible refine (alive_any _ (HT.out _ B11.out)).mono ?_); rintro e w12 ⟨rfl, hb12⟩); have B12 := Lib.hid (B11.out.trans (hb12.mono B11.out.size)); clear hb12)
          go_ret
          exact ⟨rfl, B12.out⟩
theorem leaf_once_walk (x : Int) (A : Option Addr) (k c : Nat) (f : Nat → Opr) (w : World) (ht : Tabs w) (hk : k ≤ 9223372036854775807) (_ : k ≤ c) (hA : OpRow w A k f) :
    Calls Tryd.prog 3 #[.int .i64 x, .slice A k c] w (RetB w true) := by
  by_cases hx : x < 0 ∨ 6 < x
  · exact once_far ht hk hA (.inl hx)
  · obtain ⟨m, h0, h7, rfl⟩ : ∃ m : Nat, 0 < m ∧ m ≤ 7 ∧ x = (m : Int) - 1 := ⟨(x + 1).toNat, by omega, by omega, by omega⟩
    cases hf : fewB f k
    · exact once_far ht hk hA (.inr ⟨m, h0, h7, rfl, hf⟩)
    · exact once_in h0 h7 ht hk hA hf
end Go.Proofs.YtlkbapcienjdcaaDoor
