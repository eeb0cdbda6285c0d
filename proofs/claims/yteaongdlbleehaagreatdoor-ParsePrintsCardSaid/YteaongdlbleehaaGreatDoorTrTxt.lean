/- The tree layer: the lengths of blanks and blocks. -/
import Derived.Test.YteaongdlbleehaaGreatDoorTrStmtW
namespace Go.Proofs.YteaongdlbleehaaGreatDoor
open Go.RowKit
theorem ind_len (d : Nat) : (ind d).length = 2 * d := by
  induction d with
  | zero => rfl
  | succ d ih => simp only [ind, List.length_append, List.length_cons, List.length_nil, ih]; omega
theorem block_len (d : Nat) (r : Bs) : (blockF d r).length = 4 + r.length + 2 * d := by
  unfold blockF
  simp only [List.length_append, List.length_cons, List.length_nil, ind_len]; omega
theorem textS_X (x : St) (d : Nat) : textS Lib.itoa x d = stmtF x.op x.nm (tL x.e) (textB Lib.itoa x.A (d + 1)) (textB Lib.itoa x.B (d + 1)) x.B.length d := by cases x; rfl
end Go.Proofs.YteaongdlbleehaaGreatDoor
