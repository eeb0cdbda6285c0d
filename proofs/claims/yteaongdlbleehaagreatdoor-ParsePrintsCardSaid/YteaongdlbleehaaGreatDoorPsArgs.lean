/- The parse layer: an argument that is a text. -/
import Derived.Test.YteaongdlbleehaaGreatDoorTrLaid
namespace Go.Proofs.YteaongdlbleehaaGreatDoor
open Go.ChangeShapes Go.WideShapes Go.ChangeAt Go.RowKit Go.Joins Go.ChangeMaps
section
variable {H : Type} {enc : TypeId × Value → H} {W : World} {b0 base : Nat} {sp : Nat → Bool} {held : Bool} {v : Value} {d : DataW H} {ps : List MemPlace}
set_option maxRecDepth 100000 in
theorem val_str (hv : Value.okWide Tryz.prog W .any b0 9 v) (hd : DataW.Trod enc Tryz.prog W base sp held 9 v d ps) : ∃ s : ByteArray, v = .string s := by
  obtain ⟨s, rfl, -⟩ := open_string Tryz.underlying9 hv hd
  exact ⟨s, rfl⟩
end
end Go.Proofs.YteaongdlbleehaaGreatDoor
