/- The lexer layer: how two tokens are compared. -/
import Derived.Test.YtlkbapcienjdcaaLxLine
namespace Go.Proofs.Ytlkbapcienjdcaa
open Go.RowKit
/-- Are two tokens the same? -/
def sameT (k : Int) (s : ByteArray) (n a : Int) (k' : Int) (s' : ByteArray) (n' a' : Int) : Bool := (k == k') && ((s.toList == s'.toList) && ((n == n') && (a == a')))
theorem guardP : Try.prog.eqGuardType Try.prog.depth 32 = false := by kernel_rfl
theorem guardR : Try.prog.eqGuardType Try.prog.depth 31 = false := by kernel_rfl
theorem heldP : Try.prog.stoodInHeld 32 = false := by kernel_rfl
theorem heldR : Try.prog.stoodInHeld 31 = false := by kernel_rfl
section
variable (k n a k' n' a' : Int) (s s' : ByteArray) (w : World)
theorem samePT : (Op.equalIn 10000 32 (tokV k s n a) (tokV k' s' n' a')).run Try.prog w = .ok (sameT k s n a k' s' n' a') w := by
  rw [run_equalIn_struct w 9999 32 _ _ (by unfold Program.fieldsOf; rw [Try.underlying32]) heldP]
  unfold sameT
  cases h1 : (k == k') <;> cases h2 : (s.toList == s'.toList) <;> cases h3 : (n == n') <;> cases h4 : (a == a') <;> simp [Program.fieldsOf, Try.underlying32, Op.eqFields, part, go_sem, h1, h2, h3, h4, Try.underlying3, Try.underlying9]
theorem sameRT : (Op.equalIn 10000 31 (tokV k s n a) (tokV k' s' n' a')).run Try.prog w = .ok (sameT k s n a k' s' n' a') w := by
  rw [run_equalIn_struct w 9999 31 _ _ (by unfold Program.fieldsOf; rw [Try.underlying31]) heldR]
  unfold sameT
  cases h1 : (k == k') <;> cases h2 : (s.toList == s'.toList) <;> cases h3 : (n == n') <;> cases h4 : (a == a') <;> simp [Program.fieldsOf, Try.underlying31, Op.eqFields, part, go_sem, h1, h2, h3, h4, Try.underlying3, Try.underlying9]
theorem eqPT : (binOp .eql 32 (tokV k s n a) (tokV k' s' n' a')).run Try.prog w = .ok (.bool (sameT k s n a k' s' n' a')) w := by
  rw [run_eql_struct, samePT]; rfl
theorem neRT : (binOp .neq 31 (tokV k s n a) (tokV k' s' n' a')).run Try.prog w = .ok (.bool (!sameT k s n a k' s' n' a')) w := by
  rw [run_neq_struct, sameRT]; rfl
end
theorem eqgP (op : BinOp) (x y : Operand) (xs ys : Array Value) (w : World) : (eqGuard op 32 x y (.agg xs) (.agg ys)).run Try.prog w = .ok () w := run_eqGuard_agg w op 32 x y xs ys guardP
theorem eqgR (op : BinOp) (x y : Operand) (xs ys : Array Value) (w : World) : (eqGuard op 31 x y (.agg xs) (.agg ys)).run Try.prog w = .ok () w := run_eqGuard_agg w op 31 x y xs ys guardR
theorem sameT_self (k n a : Int) (s : ByteArray) : sameT k s n a k s n a = true := by simp [sameT]
end Go.Proofs.Ytlkbapcienjdcaa
