/- What an argument's value is, by its type. -/
import Derived.Test.YtlkbapcienjdcaaRows
import Derived.Test.YtlkbapcienjdcaaLxReadsWalk
import Derived.ProofKit
import Derived.LaidMore
import Derived.OpenShut
import Derived.Lib.SmallJoins
import Derived.Deep.Slices
import Derived.Deep.Fields
import Derived.ChangeSame
import Derived.ChangeMaps5
namespace Go.Proofs.Ytlkbapcienjdcaa
open Go.ChangeShapes Go.WideShapes Go.ChangeAt Go.RowKit Go.Joins Go.ChangeMaps

theorem own : ownKnob Try.prog.godebug = none := by kernel_rfl
theorem laidOut : laidOutB Try.prog = true := by kernel_rfl
theorem cellsInt : Try.prog.cellsOf 3 = 1 := by kernel_rfl
theorem cellsStr : Try.prog.cellsOf 9 = 1 := by kernel_rfl
theorem cellsTok : Try.prog.cellsOf 31 = 4 := by kernel_rfl
section
variable {H : Type} {enc : TypeId × Value → H} {W : World} {b0 base : Nat} {sp : Nat → Bool} {held : Bool} {v : Value} {d : DataW H} {ps : List MemPlace}
set_option maxRecDepth 100000 in
theorem val_int (hv : Value.okWide Try.prog W .any b0 3 v) (hd : DataW.Trod enc Try.prog W base sp held 3 v d ps) : ∃ x : Int, v = .int .i64 x := by
  obtain ⟨a, rfl, -, -, hw⟩ := open_int Try.underlying3 hv hd
  exact ⟨a, rfl⟩
set_option maxRecDepth 100000 in
theorem val_str (hv : Value.okWide Try.prog W .any b0 9 v) (hd : DataW.Trod enc Try.prog W base sp held 9 v d ps) : ∃ s : ByteArray, v = .string s := by
  obtain ⟨s, rfl, -⟩ := open_string Try.underlying9 hv hd
  exact ⟨s, rfl⟩
end
end Go.Proofs.Ytlkbapcienjdcaa
