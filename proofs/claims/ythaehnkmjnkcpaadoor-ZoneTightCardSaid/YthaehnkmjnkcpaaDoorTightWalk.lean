/- The walk of ZoneTight. -/
import Derived.Test.YthaehnkmjnkcpaaDoorTightNums
import Derived.Test.YthaehnkmjnkcpaaDoorTightRows
import Derived.Test.YthaehnkmjnkcpaaDoorSpanOf
import Derived.Test.YthaehnkmjnkcpaaDoorZAlive
import Derived.Test.YthaehnkmjnkcpaaDoorHasNil
import Derived.Maps.AppendAt
import Derived.Deep.RegionLaw
namespace Go.Proofs.YthaehnkmjnkcpaaDoor
open Go.RowKit
attribute [local go_sem ↓] Go.wp_at_zero Go.wp_at_succ

/-- The document's zone, in its box. -/
def Rz (w W : World) (a a' : Value) : Prop := Duo W w.heap.size 24 a a' ∧ Below w.heap.size w W
theorem rz_new (w : World) (a a' : Value) : Rz w (w.alloc (.cells #[a, a'] 24)) a a' := ⟨Duo.new w _ _ _, zboxed _ _⟩
theorem Rz.below {w W W1 : World} {a a' : Value} (h : Rz w W a a') (hb : Below W.heap.size W W1) : Rz w W1 a a' := ⟨h.1.below hb, h.2.trans (hb.mono h.2.size)⟩
set_option maxRecDepth 100000 in
set_option maxHeartbeats 3200000 in
/-- More than 100 bounds. -/
theorem tight_far {w : World} {N : Int} {A : Option Addr} {ml cap : Nat} {i j : Int} (h : ¬ ml ≤ 100) :
    Calls Tryd.prog 3 #[zoneV N A ml cap, .int .i64 i, .int .i64 j] w (RetB w true) := by
  have HT := Lib.hid (rz_new w (.int .i64 N) (.slice A ml cap))
  have e1 : decide (ml ≤ 100) = false := decide_eq_false h
  have HE := Lib.hid e1
  clear h e1
  go_enter Tryd.func3, Tryd.ntmps3
  go_wp2_with (first
    | (go_at_call 4; ((with_reducible refine (few_any _ _ A ml cap).mono ?_); rw [HE.out]; rintro e w1 ⟨rfl, hb1⟩); have F1 := HT.out.below hb1; have HB1 := Lib.hid F1.2)
    | (go_at_call 5; ((with_reducible refine (alive_any _).mono ?_); rintro e w3 ⟨rfl, hb3⟩)))
  go_ret
  exact ⟨rfl, HB1.out.trans (hb3.mono HB1.out.size)⟩
set_option maxRecDepth 100000 in
set_option maxHeartbeats 3200000 in
/-- The bottom. -/
theorem tight_none {w : World} {N : Int} {A : Option Addr} {ml cap : Nat} {f : Nat → Int} {i j : Int} (hz : ZArg w (zoneV N A ml cap) N ml f) (h : ml ≤ 100) (hR : zr N ml f = none) :
    Calls Tryd.prog 3 #[zoneV N A ml cap, .int .i64 i, .int .i64 j] w (RetB w true) := by
  have HT := Lib.hid (rz_new w (.int .i64 N) (.slice A ml cap))
  have HE := Lib.hid (decide_eq_true h)
  have HC : Hid (∀ W, Below w.heap.size w W → Calls Tryd.prog 6 #[zoneV N A ml cap] W (RetC W (zm N) none)) := Lib.hid fun W hb => by
    have := close_z (hz.below hb)
    rw [hR] at this
    exact this
  have e0 : rlen (zm N) (none : Option Mat) = 0 := rfl
  clear h hz hR
  generalize zm N = m at *
  go_enter Tryd.func3, Tryd.ntmps3
  go_wp2_with (first
    | (go_at_call 4; ((with_reducible refine (few_any _ _ A ml cap).mono ?_); rw [HE.out]; rintro e w1 ⟨rfl, hb1⟩); have F1 := HT.out.below hb1; have y0 := F1.1.cell0; have y1 := F1.1.cell1)
    | (go_at_call 7; ((with_reducible refine (of_zone _ N A ml cap).mono ?_); rintro e w2 ⟨rfl, hb2⟩); have F2 := F1.below hb2; have HB2 := Lib.hid F2.2)
    | (go_at_call 6; ((with_reducible refine (HC.out _ HB2.out).mono ?_); rintro e w3 ⟨A3, c3, rfl, hz3, hb3⟩); have HB3 := Lib.hid (HB2.out.trans (hb3.mono HB2.out.size)); clear hz3)
    | (go_at_call 5; ((with_reducible refine (alive_any _).mono ?_); rintro e w4 ⟨rfl, hb4⟩)))
  go_ret
  exact ⟨rfl, HB3.out.trans ((zboxed w3 _).trans (hb4.mono (zboxed w3 (.cells #[.int .i64 ((m : Int) - 1), .slice A3 0 c3] 27)).size) |>.mono HB3.out.size)⟩
/-- The program's zone, in its box; it is right. -/
structure XS (w w3 : World) (m : Nat) (C : Mat) (A3 : Option Addr) (c3 base : Nat) (W : World) : Prop where
  low : Below w.heap.size w W
  box : Duo W w3.heap.size 27 (.int .i64 ((m : Int) - 1)) (.slice A3 (m * m) c3)
  z : ZRes W base m (some C) (zoneV ((m : Int) - 1) A3 (rlen m (some C)) c3)
section
variable {w w3 W W1 : World} {m c3 base : Nat} {C : Mat} {A3 : Option Addr}
theorem XS.below (h : XS w w3 m C A3 c3 base W) (hb : Below W.heap.size W W1) : XS w w3 m C A3 c3 base W1 := ⟨h.low.trans (hb.mono h.low.size), h.box.below hb, h.z.below hb⟩
theorem xs_new (hb : Below w.heap.size w w3) (hz : ZRes w3 base m (some C) (zoneV ((m : Int) - 1) A3 (rlen m (some C)) c3)) : XS w w3 m C A3 c3 base (w3.alloc (.cells #[.int .i64 ((m : Int) - 1), .slice A3 (m * m) c3] 27)) :=
  ⟨hb.trans ((zboxed w3 _).mono hb.size), Duo.new w3 _ _ _, hz.below (zboxed w3 _)⟩
theorem XS.close (h : XS w w3 m C A3 c3 base W) (h0 : 0 < m) (h7 : m ≤ 7) : ∀ W', Below W.heap.size W W' → Calls Tryd.prog 6 #[zoneV ((m : Int) - 1) A3 (m * m) c3] W' (RetC W' m (some C)) := fun _ hb => close_back h0 h7 (h.z.below hb)
theorem XS.closed (h : XS w w3 m C A3 c3 base W) : Closed m C := h.z.1
theorem XS.get (h : XS w w3 m C A3 c3 base W) (h0 : 0 < m) (h7 : m ≤ 7) {I J : Nat} (hI : I < m) (hJ : J < m) : Calls Tryd.prog 8 #[zoneV ((m : Int) - 1) A3 (m * m) c3, .int .i64 (I : Int), .int .i64 (J : Int)] W (RetI W (C I J)) := by
  have := get_any (i := (I : Int)) (j := (J : Int)) h0 h7 (h.close h0 h7)
  have e : (knownB ((m : Int) - 1) (I : Int) && knownB ((m : Int) - 1) (J : Int)) = true := by simp [knownB]; omega
  have e2 : getO m (some C) (I : Int) (J : Int) = C I J := by
    show (if (knownB ((m : Int) - 1) (I : Int) && knownB ((m : Int) - 1) (J : Int)) = true then C (I : Int).toNat (J : Int).toNat else -2305843009213693952) = C I J
    rw [if_pos e, Int.toNat_natCast, Int.toNat_natCast]
  rw [e2] at this
  exact this
theorem XS.span (h : XS w w3 m C A3 c3 base W) (h0 : 0 < m) (h7 : m ≤ 7) {k : Nat} (hk : 1 ≤ k) (hm : k < m) : Calls Tryd.prog 9 #[zoneV ((m : Int) - 1) A3 (m * m) c3, .int .i64 (k : Int)] W (RetSpan (-(C 0 k)) (C k 0) W) := by
  have := span_any (i := (k : Int)) h0 h7 (h.close h0 h7)
  rw [ends_of h.closed hk hm] at this
  exact this
theorem XS.guard_yes (h : XS w w3 m C A3 c3 base W) (h0 : 0 < m) (h7 : m ≤ 7) {I J : Nat} (hI : I < m) (hJ : J < m) : Calls Tryd.prog 10 #[zoneV ((m : Int) - 1) A3 (m * m) c3, .int .i64 (J : Int), .int .i64 (I : Int), .int .i64 (-(C I J))] W fun e w' => ∃ A c, e = .returned (zoneV ((m : Int) - 1) A (m * m) c) ∧ Below W.heap.size W w' := by
  have hbd := h.closed.bd hI hJ
  obtain ⟨D, hD⟩ := tight_yes h.closed h0 hI hJ
  have := guard_any (i := (J : Int)) (j := (I : Int)) (c := -(C I J)) h0 h7 (by omega) (h.close h0 h7)
  rw [hD] at this
  refine this.mono ?_
  rintro e w' ⟨A, c, rfl, -, hb⟩
  exact ⟨A, c, rfl, hb⟩
theorem XS.guard_no (h : XS w w3 m C A3 c3 base W) (h0 : 0 < m) (h7 : m ≤ 7) {I J : Nat} (hI : I < m) (hJ : J < m) : Calls Tryd.prog 10 #[zoneV ((m : Int) - 1) A3 (m * m) c3, .int .i64 (J : Int), .int .i64 (I : Int), .int .i64 (-(C I J) - 1)] W fun e w' => ∃ A c, e = .returned (zoneV ((m : Int) - 1) A 0 c) ∧ Below W.heap.size W w' := by
  have hbd := h.closed.bd hI hJ
  have := guard_any (i := (J : Int)) (j := (I : Int)) (c := -(C I J) - 1) h0 h7 (by omega) (h.close h0 h7)
  rw [tight_no h0 hI hJ] at this
  refine this.mono ?_
  rintro e w' ⟨A, c, rfl, -, hb⟩
  exact ⟨A, c, rfl, hb⟩
/-- A row of n numbers that lies in memory, or nothing. -/
theorem XS.has (h : XS w w3 m C A3 c3 base W) (h0 : 0 < m) (h7 : m ≤ 7) {n B : Nat} {v : Value} {f : Nat → Int} (hl : n + 1 = m) (hr : W.ownsRow B 3 1 v n ((List.range n).map fun k => .int .i64 (f k))) (hp : anyOut n f = false ∧ leB m (pmat (vof f)) C = true) : Calls Tryd.prog 11 #[zoneV ((m : Int) - 1) A3 (m * m) c3, v] W (RetB W true) := by
  rcases hr.2 with ⟨rfl, h9⟩ | ⟨g, cap, cur, rfl, -⟩
  · have := has_nil (P := none) (cap := 0) (f := f) h0 h7 h9 hl hp.1 (h.close h0 h7)
    rw [hp.2, h9] at this
    exact this
  · have hlt := (hr.lt g rfl).2
    have := has_any (b := g) (off := 0) (n := n) (cap := cap) (f := f) h0 h7 hlt (fun k hk => ?_) (h.close h0 h7)
    · have e : hasO m n f (some C) = true := by
        show (decide (n + 1 = m) && (!anyOut n f && leB m (pmat (vof f)) C)) = true
        rw [hp.1, hp.2, decide_eq_true hl]; rfl
      rw [e] at this
      exact this
    · have := hr.cellAt k (by omega)
      rw [Nat.zero_add, this]
      simp [hk]
end
set_option maxRecDepth 100000 in
set_option maxHeartbeats 3200000 in
theorem tight_out_a {w : World} {N : Int} {A : Option Addr} {ml cap : Nat} {f : Nat → Int} {i j : Int} {C : Mat} (hz : ZArg w (zoneV N A ml cap) N ml f) (h : ml ≤ 100) (hR : zr N ml f = some C) (ho : i < 0) :
    Calls Tryd.prog 3 #[zoneV N A ml cap, .int .i64 i, .int .i64 j] w (RetB w true) := by
  have HT := Lib.hid (rz_new w (.int .i64 N) (.slice A ml cap))
  have HE := Lib.hid (decide_eq_true h)
  have HC : Hid (∀ W, Below w.heap.size w W → Calls Tryd.prog 6 #[zoneV N A ml cap] W (RetC W (zm N) (some C))) := Lib.hid fun W hb => by
    have := close_z (hz.below hb)
    rw [hR] at this
    exact this
  obtain ⟨h0, h7⟩ := zm_bd N
  have e1 : rlen (zm N) (some C) = zm N * zm N := rfl
  have e2 := sq_pos h0
  clear h hz hR
  generalize zm N = m at *
  have d1 : decide (i < 0) = true := decide_eq_true ho
  clear ho
  go_enter Tryd.func3, Tryd.ntmps3
  go_wp2_with (first
    | (go_at_call 4; ((with_reducible refine (few_any _ _ A ml cap).mono ?_); rw [HE.out]; rintro e w1 ⟨rfl, hb1⟩); have F1 := HT.out.below hb1; have y0 := F1.1.cell0; have y1 := F1.1.cell1)
    | (go_at_call 7; ((with_reducible refine (of_zone _ N A ml cap).mono ?_); rintro e w2 ⟨rfl, hb2⟩); have F2 := F1.below hb2; have HB2 := Lib.hid F2.2)
    | (go_at_call 6; ((with_reducible refine (HC.out _ HB2.out).mono ?_); rintro e w3 ⟨A3, c3, rfl, hz3, hb3⟩); have HX := Lib.hid (xs_new (HB2.out.trans (hb3.mono HB2.out.size)) hz3); clear hz3 hb3 F1 F2 y0 y1)
    | (go_at_call 5; ((with_reducible refine (alive_any _).mono ?_); rintro e w4 ⟨rfl, hb4⟩); have HZ := Lib.hid (HX.out.low.trans (hb4.mono HX.out.low.size)); clear hb4))
  go_ret
  exact ⟨rfl, HZ.out⟩
set_option maxRecDepth 100000 in
set_option maxHeartbeats 3200000 in
theorem tight_out_b {w : World} {N : Int} {A : Option Addr} {ml cap : Nat} {f : Nat → Int} {i j : Int} {C : Mat} (hz : ZArg w (zoneV N A ml cap) N ml f) (h : ml ≤ 100) (hR : zr N ml f = some C) (ho : 0 ≤ i ∧ (zm N : Int) - 1 < i) :
    Calls Tryd.prog 3 #[zoneV N A ml cap, .int .i64 i, .int .i64 j] w (RetB w true) := by
  have HT := Lib.hid (rz_new w (.int .i64 N) (.slice A ml cap))
  have HE := Lib.hid (decide_eq_true h)
  have HC : Hid (∀ W, Below w.heap.size w W → Calls Tryd.prog 6 #[zoneV N A ml cap] W (RetC W (zm N) (some C))) := Lib.hid fun W hb => by
    have := close_z (hz.below hb)
    rw [hR] at this
    exact this
  obtain ⟨h0, h7⟩ := zm_bd N
  have e1 : rlen (zm N) (some C) = zm N * zm N := rfl
  have e2 := sq_pos h0
  clear h hz hR
  generalize zm N = m at *
  have d1 : decide (i < 0) = false := decide_eq_false (by omega)
  have d2 : decide ((m : Int) - 1 < i) = true := decide_eq_true ho.2
  clear ho
  go_enter Tryd.func3, Tryd.ntmps3
  go_wp2_with (first
    | (go_at_call 4; ((with_reducible refine (few_any _ _ A ml cap).mono ?_); rw [HE.out]; rintro e w1 ⟨rfl, hb1⟩); have F1 := HT.out.below hb1; have y0 := F1.1.cell0; have y1 := F1.1.cell1)
    | (go_at_call 7; ((with_reducible refine (of_zone _ N A ml cap).mono ?_); rintro e w2 ⟨rfl, hb2⟩); have F2 := F1.below hb2; have HB2 := Lib.hid F2.2)
    | (go_at_call 6; ((with_reducible refine (HC.out _ HB2.out).mono ?_); rintro e w3 ⟨A3, c3, rfl, hz3, hb3⟩); have HX := Lib.hid (xs_new (HB2.out.trans (hb3.mono HB2.out.size)) hz3); clear hz3 hb3 F1 F2 y0 y1)
    | (go_at_call 5; ((with_reducible refine (alive_any _).mono ?_); rintro e w4 ⟨rfl, hb4⟩); have HZ := Lib.hid (HX.out.low.trans (hb4.mono HX.out.low.size)); clear hb4))
  go_ret
  exact ⟨rfl, HZ.out⟩
set_option maxRecDepth 100000 in
set_option maxHeartbeats 3200000 in
theorem tight_out_c {w : World} {N : Int} {A : Option Addr} {ml cap : Nat} {f : Nat → Int} {i j : Int} {C : Mat} (hz : ZArg w (zoneV N A ml cap) N ml f) (h : ml ≤ 100) (hR : zr N ml f = some C) (ho : 0 ≤ i ∧ i ≤ (zm N : Int) - 1 ∧ j < 0) :
    Calls Tryd.prog 3 #[zoneV N A ml cap, .int .i64 i, .int .i64 j] w (RetB w true) := by
  have HT := Lib.hid (rz_new w (.int .i64 N) (.slice A ml cap))
  have HE := Lib.hid (decide_eq_true h)
  have HC : Hid (∀ W, Below w.heap.size w W → Calls Tryd.prog 6 #[zoneV N A ml cap] W (RetC W (zm N) (some C))) := Lib.hid fun W hb => by
    have := close_z (hz.below hb)
    rw [hR] at this
    exact this
  obtain ⟨h0, h7⟩ := zm_bd N
  have e1 : rlen (zm N) (some C) = zm N * zm N := rfl
  have e2 := sq_pos h0
  clear h hz hR
  generalize zm N = m at *
  have d1 : decide (i < 0) = false := decide_eq_false (by omega)
  have d2 : decide ((m : Int) - 1 < i) = false := decide_eq_false (by omega)
  have d3 : decide (j < 0) = true := decide_eq_true ho.2.2
  clear ho
  go_enter Tryd.func3, Tryd.ntmps3
  go_wp2_with (first
    | (go_at_call 4; ((with_reducible refine (few_any _ _ A ml cap).mono ?_); rw [HE.out]; rintro e w1 ⟨rfl, hb1⟩); have F1 := HT.out.below hb1; have y0 := F1.1.cell0; have y1 := F1.1.cell1)
    | (go_at_call 7; ((with_reducible refine (of_zone _ N A ml cap).mono ?_); rintro e w2 ⟨rfl, hb2⟩); have F2 := F1.below hb2; have HB2 := Lib.hid F2.2)
    | (go_at_call 6; ((with_reducible refine (HC.out _ HB2.out).mono ?_); rintro e w3 ⟨A3, c3, rfl, hz3, hb3⟩); have HX := Lib.hid (xs_new (HB2.out.trans (hb3.mono HB2.out.size)) hz3); clear hz3 hb3 F1 F2 y0 y1)
    | (go_at_call 5; ((with_reducible refine (alive_any _).mono ?_); rintro e w4 ⟨rfl, hb4⟩); have HZ := Lib.hid (HX.out.low.trans (hb4.mono HX.out.low.size)); clear hb4))
  go_ret
  exact ⟨rfl, HZ.out⟩
set_option maxRecDepth 100000 in
set_option maxHeartbeats 3200000 in
theorem tight_out_d {w : World} {N : Int} {A : Option Addr} {ml cap : Nat} {f : Nat → Int} {i j : Int} {C : Mat} (hz : ZArg w (zoneV N A ml cap) N ml f) (h : ml ≤ 100) (hR : zr N ml f = some C) (ho : 0 ≤ i ∧ i ≤ (zm N : Int) - 1 ∧ 0 ≤ j ∧ (zm N : Int) - 1 < j) :
    Calls Tryd.prog 3 #[zoneV N A ml cap, .int .i64 i, .int .i64 j] w (RetB w true) := by
  have HT := Lib.hid (rz_new w (.int .i64 N) (.slice A ml cap))
  have HE := Lib.hid (decide_eq_true h)
  have HC : Hid (∀ W, Below w.heap.size w W → Calls Tryd.prog 6 #[zoneV N A ml cap] W (RetC W (zm N) (some C))) := Lib.hid fun W hb => by
    have := close_z (hz.below hb)
    rw [hR] at this
    exact this
  obtain ⟨h0, h7⟩ := zm_bd N
  have e1 : rlen (zm N) (some C) = zm N * zm N := rfl
  have e2 := sq_pos h0
  clear h hz hR
  generalize zm N = m at *
  have d1 : decide (i < 0) = false := decide_eq_false (by omega)
  have d2 : decide ((m : Int) - 1 < i) = false := decide_eq_false (by omega)
  have d3 : decide (j < 0) = false := decide_eq_false (by omega)
  have d4 : decide ((m : Int) - 1 < j) = true := decide_eq_true ho.2.2.2
  clear ho
  go_enter Tryd.func3, Tryd.ntmps3
  go_wp2_with (first
    | (go_at_call 4; ((with_reducible refine (few_any _ _ A ml cap).mono ?_); rw [HE.out]; rintro e w1 ⟨rfl, hb1⟩); have F1 := HT.out.below hb1; have y0 := F1.1.cell0; have y1 := F1.1.cell1)
    | (go_at_call 7; ((with_reducible refine (of_zone _ N A ml cap).mono ?_); rintro e w2 ⟨rfl, hb2⟩); have F2 := F1.below hb2; have HB2 := Lib.hid F2.2)
    | (go_at_call 6; ((with_reducible refine (HC.out _ HB2.out).mono ?_); rintro e w3 ⟨A3, c3, rfl, hz3, hb3⟩); have HX := Lib.hid (xs_new (HB2.out.trans (hb3.mono HB2.out.size)) hz3); clear hz3 hb3 F1 F2 y0 y1)
    | (go_at_call 5; ((with_reducible refine (alive_any _).mono ?_); rintro e w4 ⟨rfl, hb4⟩); have HZ := Lib.hid (HX.out.low.trans (hb4.mono HX.out.low.size)); clear hb4))
  go_ret
  exact ⟨rfl, HZ.out⟩
end Go.Proofs.YthaehnkmjnkcpaaDoor
