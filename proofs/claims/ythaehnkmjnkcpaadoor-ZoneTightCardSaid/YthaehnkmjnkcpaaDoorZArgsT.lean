/- What an argument that is a zone of the document's holds; and what the rows' listed variables are. -/
import Derived.Test.YthaehnkmjnkcpaaDoorRows
import Derived.Test.YthaehnkmjnkcpaaDoorTightIn
import Derived.ProofKit
import Derived.LaidMore
import Derived.OpenShut
import Derived.Stop.Joined
import Derived.Stop.LaidErr
import Derived.Lib.LaidTab
import Derived.Lib.SmallJoins
import Derived.Deep.Slices
import Derived.Deep.Fields
import Derived.ChangeSame
namespace Go.Proofs.YthaehnkmjnkcpaaDoor
open Go.ChangeShapes Go.WideShapes Go.ChangeAt Go.RowKit Go.Joins

theorem own : ownKnob Tryd.prog.godebug = none := by kernel_rfl
theorem laidOut : laidOutB Tryd.prog = true := by kernel_rfl

/-- The rows' list. -/
def laidL : List (String × DataW Unit) := [("math/bits.deBruijn32tab", Rows.laid_math_bits_deBruijn32tab), ("math/bits.deBruijn64tab", Rows.laid_math_bits_deBruijn64tab), ("internal/strconv.uint64pow10", Rows.laid_internal_strconv_uint64pow10)]

set_option maxRecDepth 100000 in
theorem door_met (os : Os) (args : Array Value) : laidMetH Tryd.prog laidL ((World.doorLaid Tryd.prog 400 os).forCall (fun _ _ => 0) ⟨#[], args, []⟩).memory :=
  laidMetH_of_parts3 (fuel := 8) (laidMet_of_run' 8 (by kernel_rfl) (by kernel_rfl)) (by kernel_rfl) (by kernel_rfl)

theorem cells_int : Tryd.prog.cellsOf 3 = 1 := by kernel_rfl
theorem cells_zone : Tryd.prog.cellsOf 24 = 2 := by kernel_rfl

/-- A row of numbers. -/
def ZInts (w : World) (A : Option Addr) (m : Nat) (f : Nat → Int) : Prop := 0 < m → ∃ b off, A = some ⟨b, off, none⟩ ∧ b < w.heap.size ∧ ∀ j, j < m → w.cell? ⟨b, off + j, none⟩ = some (.int .i64 (f j))

section
variable {H : Type} {enc : TypeId × Value → H} {W : World} {b0 base : Nat} {sp : Nat → Bool} {held : Bool} {v : Value} {d : DataW H} {ps : List MemPlace}
set_option maxRecDepth 100000 in
theorem val_zone (hv : Value.okWide Tryd.prog W .any b0 24 v) (hd : DataW.Trod enc Tryd.prog W base sp held 24 v d ps) : ∃ (N : Int) (A : Option Addr) (m cap : Nat) (f : Nat → Int), v = zoneV N A m cap ∧ m ≤ cap ∧ m ≤ 9223372036854775807 ∧ ZInts W A m f := by
  obtain ⟨c0, c1, y0, y1, n, rfl, -, -, hy0, hy1⟩ := open_agg2 Tryd.underlying24 (by kernel_rfl) cells_zone hv hd
  obtain ⟨x, e0, -, -⟩ := DataW.trod_int Tryd.underlying3 hy0
  simp only [List.cons.injEq, and_true] at e0
  subst e0
  rcases open_ints Tryd.underlying22 Tryd.underlying3 cells_int hy1 with ⟨hcs, _⟩ | ⟨a, l, c, zs, hcs, _, hl, hm, hz, _, hcell, hwz⟩
  · simp only [List.cons.injEq, and_true] at hcs
    subst hcs
    exact ⟨x, none, 0, 0, fun _ => 0, rfl, by omega, by omega, fun h => absurd h (by omega)⟩
  · simp only [List.cons.injEq, and_true] at hcs
    subst hcs
    have hzl : l ≤ zs.length := by rw [hz]; split <;> omega
    refine ⟨x, some a, l, c, fun j => zs.getD j 0, rfl, hl, by unfold maxLen at hm; omega, fun h0 => ?_⟩
    obtain ⟨b, off, rfl, hc⟩ := ints_at hcell (by omega)
    refine ⟨b, off, rfl, World.block_lt_of_cell? W _ (hc 0 (by omega)), fun j hj => hc j (by omega)⟩
end

section
variable {H : Type} {enc : TypeId × Value → H} {W : World} {b0 base : Nat} {sp : Nat → Bool} {held : Bool} {v : Value} {d : DataW H} {ps : List MemPlace}
theorem val_int (hv : Value.okWide Tryd.prog W .any b0 3 v) (hd : DataW.Trod enc Tryd.prog W base sp held 3 v d ps) : ∃ x : Int, v = .int .i64 x := by
  obtain ⟨a, rfl, -, -, -⟩ := open_int Tryd.underlying3 hv hd
  exact ⟨a, rfl⟩
end
/-- An argument is a zone. -/
theorem zarg_of {W : World} {N : Int} {A : Option Addr} {m c : Nat} {f : Nat → Int} (hc : m ≤ c) (hm : m ≤ 100) (h : ZInts W A m f) : ZArg W (zoneV N A m c) N m f := ⟨A, c, rfl, hc, hm, h⟩
theorem zone_tight_walk (x0 : Int) (A0 : Option Addr) (m0 c0 : Nat) (f0 : Nat → Int) (i j : Int) (W : World) (_ : m0 ≤ 9223372036854775807) (mc0 : m0 ≤ c0) (h0 : ZInts W A0 m0 f0) :
    Calls Tryd.prog 3 #[zoneV x0 A0 m0 c0, .int .i64 i, .int .i64 j] W (RetB W true) := by
  by_cases hl : m0 ≤ 100
  · have z0 := zarg_of (N := x0) mc0 hl h0
    rcases hR : zr x0 m0 f0 with _ | C
    · exact tight_none z0 hl hR
    · by_cases h1 : i < 0
      · exact tight_out_a z0 hl hR h1
      · by_cases h2 : (zm x0 : Int) - 1 < i
        · exact tight_out_b z0 hl hR ⟨by omega, h2⟩
        · by_cases h3 : j < 0
          · exact tight_out_c z0 hl hR ⟨by omega, by omega, h3⟩
          · by_cases h4 : (zm x0 : Int) - 1 < j
            · exact tight_out_d z0 hl hR ⟨by omega, by omega, by omega, h4⟩
            · obtain ⟨I, rfl⟩ : ∃ I : Nat, i = (I : Int) := ⟨i.toNat, by omega⟩
              obtain ⟨J, rfl⟩ : ∃ J : Nat, j = (J : Int) := ⟨j.toNat, by omega⟩
              exact tight_in z0 hl hR (by omega) (by omega)
  · exact tight_far hl
end Go.Proofs.YthaehnkmjnkcpaaDoor
