/- ZoneCopied: the walk, whole. -/
import Derived.Test.YtcbkffpmclainaaDoorZVal
import Derived.Test.YtcbkffpmclainaaDoorCopiedIn
namespace Go.Proofs.YtcbkffpmclainaaDoor
open Go.RowKit

theorem zone_copied_walk (x0 : Int) (A0 : Option Addr) (m0 c0 : Nat) (f0 : Nat → Int) (f1 : Nat → Int) (A1 : Option Addr) (m1 c1 : Nat) (I J C L H : Int) (W : World) (_ : m0 ≤ 9223372036854775807) (mc0 : m0 ≤ c0) (h0 : ZInts W A0 m0 f0) (_ : m1 ≤ 9223372036854775807) (_ : m1 ≤ c1) (h1 : ZInts W A1 m1 f1) :
    Calls Tryd.prog 7 #[zoneV x0 A0 m0 c0, .slice A1 m1 c1, .agg #[.int .i64 I, .int .i64 J, .int .i64 C, .int .i64 L, .int .i64 H]] W (RetB W true) := by
  by_cases hl : m0 ≤ 100
  · have z0 := zarg_of (N := x0) mc0 hl h0
    by_cases g0 : m1 ≤ 6
    · by_cases g1 : (m1 : Int) = (zm x0 : Int) - 1
      · by_cases g2 : 1 ≤ I
        · by_cases g3 : I ≤ (m1 : Int)
          · by_cases g4 : 1 ≤ J
            · by_cases g5 : J ≤ (m1 : Int)
              · by_cases g6 : -2305843009213693952 ≤ C
                · by_cases g7 : C ≤ 2305843009213693952
                  · obtain ⟨b, off, rfl, hp⟩ := ptAt_of (show 0 < m1 by omega) h1
                    have hb := zm_bd x0
                    have hn : m1 + 1 = zm x0 := by omega
                    obtain ⟨i, rfl⟩ : ∃ i : Nat, I = (i : Int) := ⟨I.toNat, by omega⟩
                    obtain ⟨j, rfl⟩ : ∃ j : Nat, J = (j : Int) := ⟨J.toNat, by omega⟩
                    by_cases hij : i - 1 = j - 1
                    · exact copied_same (t := i - 1) (u := j - 1) z0 hl hn (by omega) (by omega) (by omega) (by omega) ⟨g6, g7⟩ hp hij
                    · exact copied_two (t := i - 1) (u := j - 1) z0 hl hn (by omega) (by omega) (by omega) (by omega) ⟨g6, g7⟩ hp hij
                  · exact copied_out7 z0 hl g0 g1 g2 g3 g4 g5 g6 (by omega)
                · exact copied_out6 z0 hl g0 g1 g2 g3 g4 g5 (by omega)
              · exact copied_out5 z0 hl g0 g1 g2 g3 g4 (by omega)
            · exact copied_out4 z0 hl g0 g1 g2 g3 (by omega)
          · exact copied_out3 z0 hl g0 g1 g2 (by omega)
        · exact copied_out2 z0 hl g0 g1 (by omega)
      · exact copied_out1 z0 hl g0 g1
    · exact copied_out0 hl (by omega)
  · exact copied_far hl
end Go.Proofs.YtcbkffpmclainaaDoor
