/- The tree layer: what the rows' listed variables give. -/
import Derived.Test.YteaongdlbleehaaGreatDoorTrOwnK
import Derived.Test.YteaongdlbleehaaGreatDoorTrPrint
import Derived.MakeChecks
import Derived.Stop.LaidErr
import Derived.Lib.LaidTab
namespace Go.Proofs.YteaongdlbleehaaGreatDoor
open Go.ChangeShapes Go.WideShapes Go.ChangeAt Go.RowKit Go.Joins
def laidL : List (String × DataW Unit) := [("math/bits.deBruijn32tab", Rows.laid_math_bits_deBruijn32tab), ("math/bits.deBruijn64tab", Rows.laid_math_bits_deBruijn64tab), ("internal/strconv.uint64pow10", Rows.laid_internal_strconv_uint64pow10)]
set_option maxRecDepth 100000 in
theorem door_met (os : Os) (args : Array Value) : laidMetH Tryz.prog laidL ((World.doorLaid Tryz.prog 400 os).forCall (fun _ _ => 0) ⟨#[], args, []⟩).memory :=
  laidMet_of_run' 24 (by kernel_rfl) (by kernel_rfl)
theorem tPow : (Tryz.prog.globals[1]?).map (·.type) = some 199 := by kernel_rfl
theorem cells_u64 : Tryz.prog.cellsOf 192 = 1 := by kernel_rfl
theorem cells_pow : Tryz.prog.cellsOf 199 = 20 := by kernel_rfl
theorem powData : (Rows.laid_internal_strconv_uint64pow10 : DataW Unit) = Lib.tabData .u64 Lib.pow10Tab := by kernel_rfl
theorem tabs_of_laid {W : World} (h : laidMetH Tryz.prog laidL W) : Tabs W := by
  rw [MakeChecks.laidMetH_plain _ _ _ (by kernel_rfl)] at h
  have h2 := h.tail.tail
  rw [powData] at h2
  exact Lib.tabIs_of_head gPow tPow Tryz.underlying199 Tryz.underlying192 cells_u64 cells_pow h2
end Go.Proofs.YteaongdlbleehaaGreatDoor
