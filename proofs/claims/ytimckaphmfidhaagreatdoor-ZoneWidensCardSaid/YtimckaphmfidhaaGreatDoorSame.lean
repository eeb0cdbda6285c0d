/- How two spans are compared. -/
import Derived.Test.YtimckaphmfidhaaGreatDoorProg
import Derived.Test.YtimckaphmfidhaaGreatDoorGNums
import Derived.WalkKit
namespace Go.Proofs.YtimckaphmfidhaaGreatDoor
open Go.RowKit

theorem guard24 : Tryz.prog.eqGuardType Tryz.prog.depth 61 = false := by kernel_rfl
theorem guard23 : Tryz.prog.eqGuardType Tryz.prog.depth 78 = false := by kernel_rfl
theorem held24 : Tryz.prog.stoodInHeld 61 = false := by kernel_rfl
theorem held23 : Tryz.prog.stoodInHeld 78 = false := by kernel_rfl

theorem same24 (a b c d : Int) (w : World) : (Op.equalIn 10000 61 (.agg #[.int .i64 a, .int .i64 b]) (.agg #[.int .i64 c, .int .i64 d])).run Tryz.prog w = .ok (sameB a b c d) w := by
  rw [run_equalIn_struct w 9999 61 _ _ (by unfold Program.fieldsOf; rw [Tryz.underlying61]) held24]
  by_cases h : a = c <;> by_cases h' : b = d <;> simp [sameB, Program.fieldsOf, Tryz.underlying61, Op.eqFields, part, go_sem, h, h', Tryz.underlying3]
theorem same23 (a b c d : Int) (w : World) : (Op.equalIn 10000 78 (.agg #[.int .i64 a, .int .i64 b]) (.agg #[.int .i64 c, .int .i64 d])).run Tryz.prog w = .ok (sameB a b c d) w := by
  rw [run_equalIn_struct w 9999 78 _ _ (by unfold Program.fieldsOf; rw [Tryz.underlying78]) held23]
  by_cases h : a = c <;> by_cases h' : b = d <;> simp [sameB, Program.fieldsOf, Tryz.underlying78, Op.eqFields, part, go_sem, h, h', Tryz.underlying3]
theorem eq24 (a b c d : Int) (w : World) : (binOp .eql 61 (.agg #[.int .i64 a, .int .i64 b]) (.agg #[.int .i64 c, .int .i64 d])).run Tryz.prog w = .ok (.bool (sameB a b c d)) w := by
  rw [run_eql_struct, same24]; rfl
theorem eq23 (a b c d : Int) (w : World) : (binOp .eql 78 (.agg #[.int .i64 a, .int .i64 b]) (.agg #[.int .i64 c, .int .i64 d])).run Tryz.prog w = .ok (.bool (sameB a b c d)) w := by
  rw [run_eql_struct, same23]; rfl
theorem neq24 (a b c d : Int) (w : World) : (binOp .neq 61 (.agg #[.int .i64 a, .int .i64 b]) (.agg #[.int .i64 c, .int .i64 d])).run Tryz.prog w = .ok (.bool (!sameB a b c d)) w := by
  rw [run_neq_struct, same24]; rfl
theorem eqg24 (op : BinOp) (x y : Operand) (xs ys : Array Value) (w : World) : (eqGuard op 61 x y (.agg xs) (.agg ys)).run Tryz.prog w = .ok () w := run_eqGuard_agg w op 61 x y xs ys guard24
theorem eqg23 (op : BinOp) (x y : Operand) (xs ys : Array Value) (w : World) : (eqGuard op 78 x y (.agg xs) (.agg ys)).run Tryz.prog w = .ok () w := run_eqGuard_agg w op 78 x y xs ys guard23
end Go.Proofs.YtimckaphmfidhaaGreatDoor
