/- What an argument that is a zone of the document's holds; and what the rows' listed variables are. -/
import Derived.Test.YtjolpplghokngaaDoorRows
import Derived.Test.YtjolpplghokngaaDoorSameNear
import Derived.ProofKit
import Derived.LaidMore
import Derived.OpenShut
import Derived.Stop.Joined
import Derived.Stop.LaidErr
import Derived.Lib.LaidTab
import Derived.Lib.SmallJoins
import Derived.Deep.Slices
import Derived.Deep.Fields
import Derived.ChangeSame
namespace Go.Proofs.YtjolpplghokngaaDoor
open Go.ChangeShapes Go.WideShapes Go.ChangeAt Go.RowKit Go.Joins

theorem own : ownKnob Tryd.prog.godebug = none := by kernel_rfl
theorem laidOut : laidOutB Tryd.prog = true := by kernel_rfl

/-- The rows' list. -/
def laidL : List (String × DataW Unit) := [("math/bits.deBruijn32tab", Rows.laid_math_bits_deBruijn32tab), ("math/bits.deBruijn64tab", Rows.laid_math_bits_deBruijn64tab), ("internal/strconv.uint64pow10", Rows.laid_internal_strconv_uint64pow10)]

set_option maxRecDepth 100000 in
theorem door_met (os : Os) (args : Array Value) : laidMetH Tryd.prog laidL ((World.doorLaid Tryd.prog 400 os).forCall (fun _ _ => 0) ⟨#[], args, []⟩).memory :=
  laidMetH_of_parts3 (fuel := 8) (laidMet_of_run' 8 (by kernel_rfl) (by kernel_rfl)) (by kernel_rfl) (by kernel_rfl)

theorem cells_int : Tryd.prog.cellsOf 3 = 1 := by kernel_rfl
theorem cells_zone : Tryd.prog.cellsOf 24 = 2 := by kernel_rfl

/-- A row of numbers. -/
def ZInts (w : World) (A : Option Addr) (m : Nat) (f : Nat → Int) : Prop := 0 < m → ∃ b off, A = some ⟨b, off, none⟩ ∧ b < w.heap.size ∧ ∀ j, j < m → w.cell? ⟨b, off + j, none⟩ = some (.int .i64 (f j))

section
variable {H : Type} {enc : TypeId × Value → H} {W : World} {b0 base : Nat} {sp : Nat → Bool} {held : Bool} {v : Value} {d : DataW H} {ps : List MemPlace}
set_option maxRecDepth 100000 in
theorem val_zone (hv : Value.okWide Tryd.prog W .any b0 24 v) (hd : DataW.Trod enc Tryd.prog W base sp held 24 v d ps) : ∃ (N : Int) (A : Option Addr) (m cap : Nat) (f : Nat → Int), v = zoneV N A m cap ∧ m ≤ cap ∧ m ≤ 9223372036854775807 ∧ ZInts W A m f := by
  obtain ⟨c0, c1, y0, y1, n, rfl, -, -, hy0, hy1⟩ := open_agg2 Tryd.underlying24 (by kernel_rfl) cells_zone hv hd
  obtain ⟨x, e0, -, -⟩ := DataW.trod_int Tryd.underlying3 hy0
  simp only [List.cons.injEq, and_true] at e0
  subst e0
  rcases open_ints Tryd.underlying22 Tryd.underlying3 cells_int hy1 with ⟨hcs, _⟩ | ⟨a, l, c, zs, hcs, _, hl, hm, hz, _, hcell, hwz⟩
  · simp only [List.cons.injEq, and_true] at hcs
    subst hcs
    exact ⟨x, none, 0, 0, fun _ => 0, rfl, by omega, by omega, fun h => absurd h (by omega)⟩
  · simp only [List.cons.injEq, and_true] at hcs
    subst hcs
    have hzl : l ≤ zs.length := by rw [hz]; split <;> omega
    refine ⟨x, some a, l, c, fun j => zs.getD j 0, rfl, hl, by unfold maxLen at hm; omega, fun h0 => ?_⟩
    obtain ⟨b, off, rfl, hc⟩ := ints_at hcell (by omega)
    refine ⟨b, off, rfl, World.block_lt_of_cell? W _ (hc 0 (by omega)), fun j hj => hc j (by omega)⟩
end

/-- An argument is a zone. -/
theorem zarg_of {W : World} {N : Int} {A : Option Addr} {m c : Nat} {f : Nat → Int} (hc : m ≤ c) (hm : m ≤ 100) (h : ZInts W A m f) : ZArg W (zoneV N A m c) N m f := ⟨A, c, rfl, hc, hm, h⟩
theorem meet_zone {W : World} {N : Int} {A : Option Addr} {m c : Nat} {f : Nat → Int} (h : ZArg W (zoneV N A m c) N m f) :
    Calls Tryd.prog 13 #[zoneV N A m c, zoneV N A m c] W (RetC W (zm N) (mtO (zm N) (zm N) (zr N m f) (zr N m f))) := by
  have h1 := meet_any (w := W) (zm_bd N).1 (zm_bd N).2 (fun W2 h2 => two_of (fun W3 h3 => close_z ((h.below h2).below h3)) (fun W3 h3 => close_z ((h.below h2).below h3)))
  rw [show meM (zm N) (zm N) = zm N from if_pos rfl] at h1
  exact h1
theorem zone_same_walk (x0 : Int) (A0 : Option Addr) (m0 c0 : Nat) (f0 : Nat → Int) (x1 : Int) (A1 : Option Addr) (m1 c1 : Nat) (f1 : Nat → Int) (W : World) (_ : m0 ≤ 9223372036854775807) (mc0 : m0 ≤ c0) (h0 : ZInts W A0 m0 f0) (_ : m1 ≤ 9223372036854775807) (mc1 : m1 ≤ c1) (h1 : ZInts W A1 m1 f1) :
    Calls Tryd.prog 7 #[zoneV x0 A0 m0 c0, zoneV x1 A1 m1 c1] W (RetB W true) := by
  by_cases hl : m0 ≤ 100 ∧ m1 ≤ 100
  · have z0 := zarg_of (N := x0) mc0 hl.1 h0
    have z1 := zarg_of (N := x1) mc1 hl.2 h1
    exact same_near hl (fun W1 hb => meet_zone (z0.below hb)) (fun W1 hb => meet_zone (z1.below hb)) (Lib.hid ⟨(zm_bd x0).1, (zm_bd x0).2, (zm_bd x1).1, (zm_bd x1).2⟩)
  · exact same_far hl
end Go.Proofs.YtjolpplghokngaaDoor
