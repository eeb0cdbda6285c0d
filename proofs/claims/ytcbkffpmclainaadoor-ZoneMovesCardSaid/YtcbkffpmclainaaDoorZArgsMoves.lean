/- ZoneMoves: the point is not in the zone; and the walk, whole. -/
import Derived.Test.YtcbkffpmclainaaDoorZVal
import Derived.Test.YtcbkffpmclainaaDoorMovesBase
import Derived.Test.YtcbkffpmclainaaDoorMovesIn
namespace Go.Proofs.YtcbkffpmclainaaDoor
open Go.RowKit
attribute [local go_sem ↓] Go.wp_at_zero Go.wp_at_succ

set_option maxRecDepth 100000 in
set_option maxHeartbeats 3200000 in
theorem moves_no {w : World} {N : Int} {A P : Option Addr} {ml cap n cp : Nat} {f : Nat → Int} {I J C L H : Int} (hz : ZArg w (zoneV N A ml cap) N ml f) (h : ml ≤ 100) (g0 : n ≤ 6) (g1 : (n : Int) = (zm N : Int) - 1) (g2 : 1 ≤ I) (g3 : I ≤ (n : Int)) (g4 : 0 ≤ J) (g5 : J ≤ (n : Int)) (g6 : -2305843009213693952 ≤ C) (g7 : C ≤ 2305843009213693952)
    (hh : ∀ W, Below w.heap.size w W → Calls Tryd.prog 31 #[zoneV N A ml cap, .slice P n cp] W (RetB W false)) :
    Calls Tryd.prog 6 #[zoneV N A ml cap, .slice P n cp, .agg #[.int .i64 I, .int .i64 J, .int .i64 C, .int .i64 L, .int .i64 H]] w (RetB w true) := by
  have HT := Lib.hid (mv_new w N A ml cap I J C L H)
  have HCl : Hid (∀ W, Below w.heap.size w W → Calls Tryd.prog 19 #[zoneV N A ml cap] W (RetC W (zm N) (zr N ml f))) := Lib.hid fun W hb => rclean_z (hz.below hb)
  have HHas := Lib.hid hh
  have HE := Lib.hid (decide_eq_true h)
  have fz := field_n
  have d0 : decide ((6 : Int) < (n : Int)) = false := decide_eq_false (by omega)
  have D0 : decide (6 < n) = false := decide_eq_false (by omega)
  have d1 : ((n : Int) == (zm N : Int) - 1) = true := by simp; omega
  have D1 : decide ((n : Int) = (zm N : Int) - 1) = true := decide_eq_true (by omega)
  have E1 : ((n : Int) != (zm N : Int) - 1) = false := by simp; omega
  have d2 : decide (I < 1) = false := decide_eq_false (by omega)
  have d3 : decide ((n : Int) < I) = false := decide_eq_false (by omega)
  have d4 : decide (J < 0) = false := decide_eq_false (by omega)
  have d5 : decide ((n : Int) < J) = false := decide_eq_false (by omega)
  have d6 : decide (C < -2305843009213693952) = false := decide_eq_false (by omega)
  have d7 : decide (2305843009213693952 < C) = false := decide_eq_false (by omega)
  clear h g0 g1 g2 g3 g4 g5 g6 g7 hz hh
  generalize zm N = m at *
  go_enter Tryd.func6, Tryd.ntmps6
  go_wp2_with (first
    | (go_at_call 9; ((with_reducible refine (few_any _ _ A ml cap).mono ?_); rw [HE.out]; rintro e w1 ⟨rfl, hb1⟩); have M1 := Lib.hid (HT.out.below hb1); obtain ⟨⟨a0, a1⟩, a2, a3, a4, a5, a6⟩ := M1.out.s; obtain ⟨a7, a8⟩ := M1.out.sz; have B1 := Lib.hid M1.out.low; clear hb1)
    | (go_at_call 19; ((with_reducible refine (HCl.out _ B1.out).mono ?_); rintro e w2 ⟨A2, c2, rfl, hz2, hb2⟩); have M2 := Lib.hid (M1.out.below hb2); obtain ⟨⟨b0, b1⟩, b2, b3, b4, b5, b6⟩ := M2.out.s; obtain ⟨b7, b8⟩ := M2.out.sz; have B2 := Lib.hid M2.out.low; clear hb2 hz2)
    | (go_at_call 12; ((with_reducible refine (of_zone _ N A ml cap).mono ?_); rintro e w4 ⟨rfl, hb4⟩); have M4 := Lib.hid (M2.out.below hb4); have B4 := Lib.hid M4.out.low; clear hb4 b0 b1 b2 b3 b4 b5 b6 b7 b8)
    | (go_at_call 31; ((with_reducible refine (HHas.out _ B4.out).mono ?_); rintro e w5 ⟨rfl, hb5⟩); have B5 := Lib.hid (B4.out.trans (hb5.mono B4.out.size)); clear hb5)
    | (go_at_call 10; ((with_reducible refine (alive_any _).mono ?_); rintro e w3 ⟨rfl, hb3⟩); have B3 := Lib.hid (B5.out.trans (hb3.mono B5.out.size)); clear hb3))
  go_ret
  exact ⟨rfl, B3.out⟩
theorem zone_moves_walk (x0 : Int) (A0 : Option Addr) (m0 c0 : Nat) (f0 : Nat → Int) (f1 : Nat → Int) (A1 : Option Addr) (m1 c1 : Nat) (I J C L H : Int) (W : World) (_ : m0 ≤ 9223372036854775807) (mc0 : m0 ≤ c0) (h0 : ZInts W A0 m0 f0) (_ : m1 ≤ 9223372036854775807) (_ : m1 ≤ c1) (h1 : ZInts W A1 m1 f1) :
    Calls Tryd.prog 6 #[zoneV x0 A0 m0 c0, .slice A1 m1 c1, .agg #[.int .i64 I, .int .i64 J, .int .i64 C, .int .i64 L, .int .i64 H]] W (RetB W true) := by
  by_cases hl : m0 ≤ 100
  · have z0 := zarg_of (N := x0) mc0 hl h0
    by_cases g0 : m1 ≤ 6
    · by_cases g1 : (m1 : Int) = (zm x0 : Int) - 1
      · by_cases g2 : 1 ≤ I
        · by_cases g3 : I ≤ (m1 : Int)
          · by_cases g4 : 0 ≤ J
            · by_cases g5 : J ≤ (m1 : Int)
              · by_cases g6 : -2305843009213693952 ≤ C
                · by_cases g7 : C ≤ 2305843009213693952
                  · obtain ⟨b, off, rfl, hp⟩ := ptAt_of (show 0 < m1 by omega) h1
                    have hb := zm_bd x0
                    have hn : m1 + 1 = zm x0 := by omega
                    cases hq : hasO (zm x0) m1 f1 (zr x0 m0 f0)
                    · refine moves_no z0 hl g0 g1 g2 g3 g4 g5 g6 g7 fun W1 hb1 => ?_
                      have := has_any (cap := c1) hb.1 hb.2 (hp.below hb1).1 (hp.below hb1).2 (fun W2 hb2 => close_z ((z0.below hb1).below hb2))
                      rw [hq] at this
                      exact this
                    · obtain ⟨D, hD, -, hpt⟩ := hasO_iff.1 hq
                      obtain ⟨i, rfl⟩ : ∃ i : Nat, I = (i : Int) := ⟨I.toNat, by omega⟩
                      obtain ⟨j, rfl⟩ : ∃ j : Nat, J = (j : Int) := ⟨J.toNat, by omega⟩
                      exact moves_in (t := i - 1) z0 hl hD hn (by omega) (by omega) (by omega) ⟨g6, g7⟩ hp hpt
                  · exact moves_out7 z0 hl g0 g1 g2 g3 g4 g5 g6 (by omega)
                · exact moves_out6 z0 hl g0 g1 g2 g3 g4 g5 (by omega)
              · exact moves_out5 z0 hl g0 g1 g2 g3 g4 (by omega)
            · exact moves_out4 z0 hl g0 g1 g2 g3 (by omega)
          · exact moves_out3 z0 hl g0 g1 g2 (by omega)
        · exact moves_out2 z0 hl g0 g1 (by omega)
      · exact moves_out1 z0 hl g0 g1
    · exact moves_out0 hl (by omega)
  · exact moves_far hl
end Go.Proofs.YtcbkffpmclainaaDoor
