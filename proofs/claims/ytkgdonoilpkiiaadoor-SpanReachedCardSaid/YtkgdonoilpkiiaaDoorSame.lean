/- How two spans are compared. -/
import Derived.Test.YtkgdonoilpkiiaaDoorProg
import Derived.Test.YtkgdonoilpkiiaaDoorSpans
import Derived.WalkKit
namespace Go.Proofs.YtkgdonoilpkiiaaDoor
open Go.RowKit

theorem guard24 : Tryd.prog.eqGuardType Tryd.prog.depth 24 = false := by kernel_rfl
theorem guard23 : Tryd.prog.eqGuardType Tryd.prog.depth 23 = false := by kernel_rfl
theorem held24 : Tryd.prog.stoodInHeld 24 = false := by kernel_rfl
theorem held23 : Tryd.prog.stoodInHeld 23 = false := by kernel_rfl

theorem same24 (a b c d : Int) (w : World) : (Op.equalIn 10000 24 (.agg #[.int .i64 a, .int .i64 b]) (.agg #[.int .i64 c, .int .i64 d])).run Tryd.prog w = .ok (sameB a b c d) w := by
  rw [run_equalIn_struct w 9999 24 _ _ (by unfold Program.fieldsOf; rw [Tryd.underlying24]) held24]
  by_cases h : a = c <;> by_cases h' : b = d <;> simp [sameB, Program.fieldsOf, Tryd.underlying24, Op.eqFields, part, go_sem, h, h', Tryd.underlying3]
theorem same23 (a b c d : Int) (w : World) : (Op.equalIn 10000 23 (.agg #[.int .i64 a, .int .i64 b]) (.agg #[.int .i64 c, .int .i64 d])).run Tryd.prog w = .ok (sameB a b c d) w := by
  rw [run_equalIn_struct w 9999 23 _ _ (by unfold Program.fieldsOf; rw [Tryd.underlying23]) held23]
  by_cases h : a = c <;> by_cases h' : b = d <;> simp [sameB, Program.fieldsOf, Tryd.underlying23, Op.eqFields, part, go_sem, h, h', Tryd.underlying3]
theorem eq24 (a b c d : Int) (w : World) : (binOp .eql 24 (.agg #[.int .i64 a, .int .i64 b]) (.agg #[.int .i64 c, .int .i64 d])).run Tryd.prog w = .ok (.bool (sameB a b c d)) w := by
  rw [run_eql_struct, same24]; rfl
theorem eq23 (a b c d : Int) (w : World) : (binOp .eql 23 (.agg #[.int .i64 a, .int .i64 b]) (.agg #[.int .i64 c, .int .i64 d])).run Tryd.prog w = .ok (.bool (sameB a b c d)) w := by
  rw [run_eql_struct, same23]; rfl
theorem neq24 (a b c d : Int) (w : World) : (binOp .neq 24 (.agg #[.int .i64 a, .int .i64 b]) (.agg #[.int .i64 c, .int .i64 d])).run Tryd.prog w = .ok (.bool (!sameB a b c d)) w := by
  rw [run_neq_struct, same24]; rfl
theorem eqg24 (op : BinOp) (x y : Operand) (xs ys : Array Value) (w : World) : (eqGuard op 24 x y (.agg xs) (.agg ys)).run Tryd.prog w = .ok () w := run_eqGuard_agg w op 24 x y xs ys guard24
theorem eqg23 (op : BinOp) (x y : Operand) (xs ys : Array Value) (w : World) : (eqGuard op 23 x y (.agg xs) (.agg ys)).run Tryd.prog w = .ok () w := run_eqGuard_agg w op 23 x y xs ys guard23
end Go.Proofs.YtkgdonoilpkiiaaDoor
