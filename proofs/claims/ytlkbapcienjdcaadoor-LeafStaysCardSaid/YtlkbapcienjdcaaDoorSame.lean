/- How two spans are compared. -/
import Derived.Test.YtlkbapcienjdcaaDoorProg
import Derived.Test.YtlkbapcienjdcaaDoorGNums
import Derived.WalkKit
namespace Go.Proofs.YtlkbapcienjdcaaDoor
open Go.RowKit

theorem guard24 : Tryd.prog.eqGuardType Tryd.prog.depth 55 = false := by kernel_rfl
theorem held24 : Tryd.prog.stoodInHeld 55 = false := by kernel_rfl
theorem same24 (a b c d : Int) (w : World) : (Op.equalIn 10000 55 (.agg #[.int .i64 a, .int .i64 b]) (.agg #[.int .i64 c, .int .i64 d])).run Tryd.prog w = .ok (sameB a b c d) w := by
  rw [run_equalIn_struct w 9999 55 _ _ (by unfold Program.fieldsOf; rw [Tryd.underlying55]) held24]
  by_cases h : a = c <;> by_cases h' : b = d <;> simp [sameB, Program.fieldsOf, Tryd.underlying55, Op.eqFields, part, go_sem, h, h', Tryd.underlying3]
theorem eq24 (a b c d : Int) (w : World) : (binOp .eql 55 (.agg #[.int .i64 a, .int .i64 b]) (.agg #[.int .i64 c, .int .i64 d])).run Tryd.prog w = .ok (.bool (sameB a b c d)) w := by
  rw [run_eql_struct, same24]; rfl
theorem neq24 (a b c d : Int) (w : World) : (binOp .neq 55 (.agg #[.int .i64 a, .int .i64 b]) (.agg #[.int .i64 c, .int .i64 d])).run Tryd.prog w = .ok (.bool (!sameB a b c d)) w := by
  rw [run_neq_struct, same24]; rfl
theorem eqg24 (op : BinOp) (x y : Operand) (xs ys : Array Value) (w : World) : (eqGuard op 55 x y (.agg xs) (.agg ys)).run Tryd.prog w = .ok () w := run_eqGuard_agg w op 55 x y xs ys guard24
end Go.Proofs.YtlkbapcienjdcaaDoor
