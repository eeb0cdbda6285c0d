/- How two spans are compared. -/
import Derived.Test.YtcbkffpmclainaaDoorProg
import Derived.Test.YtcbkffpmclainaaDoorSpans
import Derived.WalkKit
namespace Go.Proofs.YtcbkffpmclainaaDoor
open Go.RowKit

theorem guard24 : Tryd.prog.eqGuardType Tryd.prog.depth 53 = false := by kernel_rfl
theorem guard23 : Tryd.prog.eqGuardType Tryd.prog.depth 45 = false := by kernel_rfl
theorem held24 : Tryd.prog.stoodInHeld 53 = false := by kernel_rfl
theorem held23 : Tryd.prog.stoodInHeld 45 = false := by kernel_rfl

theorem same24 (a b c d : Int) (w : World) : (Op.equalIn 10000 53 (.agg #[.int .i64 a, .int .i64 b]) (.agg #[.int .i64 c, .int .i64 d])).run Tryd.prog w = .ok (sameB a b c d) w := by
  rw [run_equalIn_struct w 9999 53 _ _ (by unfold Program.fieldsOf; rw [Tryd.underlying53]) held24]
  by_cases h : a = c <;> by_cases h' : b = d <;> simp [sameB, Program.fieldsOf, Tryd.underlying53, Op.eqFields, part, go_sem, h, h', Tryd.underlying3]
theorem same23 (a b c d : Int) (w : World) : (Op.equalIn 10000 45 (.agg #[.int .i64 a, .int .i64 b]) (.agg #[.int .i64 c, .int .i64 d])).run Tryd.prog w = .ok (sameB a b c d) w := by
  rw [run_equalIn_struct w 9999 45 _ _ (by unfold Program.fieldsOf; rw [Tryd.underlying45]) held23]
  by_cases h : a = c <;> by_cases h' : b = d <;> simp [sameB, Program.fieldsOf, Tryd.underlying45, Op.eqFields, part, go_sem, h, h', Tryd.underlying3]
theorem eq24 (a b c d : Int) (w : World) : (binOp .eql 53 (.agg #[.int .i64 a, .int .i64 b]) (.agg #[.int .i64 c, .int .i64 d])).run Tryd.prog w = .ok (.bool (sameB a b c d)) w := by
  rw [run_eql_struct, same24]; rfl
theorem eq23 (a b c d : Int) (w : World) : (binOp .eql 45 (.agg #[.int .i64 a, .int .i64 b]) (.agg #[.int .i64 c, .int .i64 d])).run Tryd.prog w = .ok (.bool (sameB a b c d)) w := by
  rw [run_eql_struct, same23]; rfl
theorem neq24 (a b c d : Int) (w : World) : (binOp .neq 53 (.agg #[.int .i64 a, .int .i64 b]) (.agg #[.int .i64 c, .int .i64 d])).run Tryd.prog w = .ok (.bool (!sameB a b c d)) w := by
  rw [run_neq_struct, same24]; rfl
theorem eqg24 (op : BinOp) (x y : Operand) (xs ys : Array Value) (w : World) : (eqGuard op 53 x y (.agg xs) (.agg ys)).run Tryd.prog w = .ok () w := run_eqGuard_agg w op 53 x y xs ys guard24
theorem eqg23 (op : BinOp) (x y : Operand) (xs ys : Array Value) (w : World) : (eqGuard op 45 x y (.agg xs) (.agg ys)).run Tryd.prog w = .ok () w := run_eqGuard_agg w op 45 x y xs ys guard23
end Go.Proofs.YtcbkffpmclainaaDoor
