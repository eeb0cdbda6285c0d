/- The contract of Walk. -/
import Derived.Test.YtlddelnbjihhgaaDoorNMkAny
import Derived.Laws.Bits64b
namespace Go.Proofs.YtlddelnbjihhgaaDoor
open Go.RowKit
attribute [local go_sem ↓] Go.wp_at_zero Go.wp_at_succ

theorem bit_at (b v : Nat) (hb : b < 18446744073709551616) : (bits BinOp.and IntKind.u64 ((b : Int) / 2 ^ v) 1 == 1) = b.testBit v := by
  have e : (b : Int) / 2 ^ v = ((b / 2 ^ v : Nat) : Int) := by
    rw [Int.natCast_ediv, Int.natCast_pow]; rfl
  have hlt : b / 2 ^ v < 18446744073709551616 := Nat.lt_of_le_of_lt (Nat.div_le_self _ _) hb
  rw [e, show (1 : Int) = ((1 : Nat) : Int) from rfl, bits_and_u64_nat _ 1 hlt (by omega), Nat.and_one_is_mod, Nat.testBit_eq_decide_div_mod_eq, Bool.eq_iff_iff]
  simp
  omega
end Go.Proofs.YtlddelnbjihhgaaDoor
