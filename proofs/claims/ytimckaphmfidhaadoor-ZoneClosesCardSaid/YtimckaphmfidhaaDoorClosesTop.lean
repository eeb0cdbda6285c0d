/- ZoneCloses: the walk, and what the rows' listed variables give it. -/
import Derived.Test.YtimckaphmfidhaaDoorClosesW
import Derived.Test.YtimckaphmfidhaaDoorZRowArg
import Derived.MakeChecks
namespace Go.Proofs.YtimckaphmfidhaaDoor
open Go.ChangeShapes Go.WideShapes Go.ChangeAt Go.RowKit Go.Joins

theorem tPow : (Tryd.prog.globals[1]?).map (·.type) = some 135 := by kernel_rfl
theorem cells_u64 : Tryd.prog.cellsOf 129 = 1 := by kernel_rfl
theorem cells_pow : Tryd.prog.cellsOf 135 = 20 := by kernel_rfl
theorem powData : (Rows.laid_internal_strconv_uint64pow10 : DataW Unit) = Lib.tabData .u64 Lib.pow10Tab := by kernel_rfl
theorem tabs_of_laid {W : World} (h : laidMetH Tryd.prog laidL W) : Tabs W := by
  rw [MakeChecks.laidMetH_plain _ _ _ (by kernel_rfl)] at h
  have h2 := h.tail.tail
  rw [powData] at h2
  exact Lib.tabIs_of_head gPow tPow Tryd.underlying135 Tryd.underlying129 cells_u64 cells_pow h2
end Go.Proofs.YtimckaphmfidhaaDoor
