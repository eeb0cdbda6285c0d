/- The leaf layer: the rows' listed tables lie as the program's text lays them. -/
import Derived.Test.YtlkbapcienjdcaaDoorLOpr
namespace Go.Proofs.YtlkbapcienjdcaaDoor
open Go.ChangeShapes Go.WideShapes Go.ChangeAt Go.RowKit Go.Joins
theorem tPow : (Tryd.prog.globals[1]?).map (·.type) = some 118 := by kernel_rfl
theorem cells_u64 : Tryd.prog.cellsOf 112 = 1 := by kernel_rfl
theorem cells_pow : Tryd.prog.cellsOf 118 = 20 := by kernel_rfl
theorem powData : (Rows.laid_internal_strconv_uint64pow10 : DataW Unit) = Lib.tabData .u64 Lib.pow10Tab := by kernel_rfl
theorem tabs_of_laid {W : World} (h : laidMetH Tryd.prog laidL W) : Tabs W := by
  rw [MakeChecks.laidMetH_plain _ _ _ (by kernel_rfl)] at h
  have h2 := h.tail.tail
  rw [powData] at h2
  exact Lib.tabIs_of_head gPow tPow Tryd.underlying118 Tryd.underlying112 cells_u64 cells_pow h2
end Go.Proofs.YtlkbapcienjdcaaDoor
