/- How two nodes are compared. -/
import Derived.Test.YtlddelnbjihhgaaDoorNBase
namespace Go.Proofs.YtlddelnbjihhgaaDoor
open Go.RowKit

def sameN (a b c d e f : Int) : Bool := decide (a = d) && (decide (b = e) && decide (c = f))
theorem sameN_iff (x y : Nd) : sameN x.1 x.2.1 x.2.2 y.1 y.2.1 y.2.2 = decide (x = y) := by
  obtain ⟨a, b, c⟩ := x
  obtain ⟨d, e, f⟩ := y
  unfold sameN
  rw [Bool.eq_iff_iff]
  simp [Prod.ext_iff]
theorem guardN : Tryd.prog.eqGuardType Tryd.prog.depth 106 = false := by kernel_rfl
theorem heldN : Tryd.prog.stoodInHeld 106 = false := by kernel_rfl
theorem equalN (a b c d e f : Int) (w : World) : (Op.equalIn 10000 106 (.agg #[.int .i64 a, .int .i64 b, .int .i64 c]) (.agg #[.int .i64 d, .int .i64 e, .int .i64 f])).run Tryd.prog w = .ok (sameN a b c d e f) w := by
  rw [run_equalIn_struct w 9999 106 _ _ (by unfold Program.fieldsOf; rw [Tryd.underlying106]) heldN]
  by_cases h : a = d <;> by_cases h' : b = e <;> by_cases h'' : c = f <;> simp [sameN, Program.fieldsOf, Tryd.underlying106, Op.eqFields, part, go_sem, h, h', h'', Tryd.underlying3]
theorem eqN (a b c d e f : Int) (w : World) : (binOp .eql 106 (.agg #[.int .i64 a, .int .i64 b, .int .i64 c]) (.agg #[.int .i64 d, .int .i64 e, .int .i64 f])).run Tryd.prog w = .ok (.bool (sameN a b c d e f)) w := by
  rw [run_eql_struct, equalN]; rfl
theorem neN (a b c d e f : Int) (w : World) : (binOp .neq 106 (.agg #[.int .i64 a, .int .i64 b, .int .i64 c]) (.agg #[.int .i64 d, .int .i64 e, .int .i64 f])).run Tryd.prog w = .ok (.bool (!sameN a b c d e f)) w := by
  rw [run_neq_struct, equalN]; rfl
theorem eqgN (op : BinOp) (x y : Operand) (xs ys : Array Value) (w : World) : (eqGuard op 106 x y (.agg xs) (.agg ys)).run Tryd.prog w = .ok () w := run_eqGuard_agg w op 106 x y xs ys guardN
end Go.Proofs.YtlddelnbjihhgaaDoor
