/- What an argument that is a row of zones of the document's holds. -/
import Derived.Test.YtlkbapcienjdcaaDoorZVal
namespace Go.Proofs.YtlkbapcienjdcaaDoor
open Go.ChangeShapes Go.WideShapes Go.ChangeAt Go.RowKit Go.Joins

theorem cells_row : Tryd.prog.cellsOf 29 = 1 := by kernel_rfl
/-- A row of zones: each one's N, its slice, and what that holds. -/
def ZRow (w : World) (A : Option Addr) (k : Nat) (X : Nat → Int) (Az : Nat → Option Addr) (mz cz : Nat → Nat) (fz : Nat → Nat → Int) : Prop :=
  0 < k → ∃ b off, A = some ⟨b, off, none⟩ ∧ b < w.heap.size ∧ ∀ i, i < k → w.cell? ⟨b, off + i * 2, none⟩ = some (.int .i64 (X i)) ∧ w.cell? ⟨b, off + i * 2 + 1, none⟩ = some (.slice (Az i) (mz i) (cz i)) ∧ mz i ≤ cz i ∧ mz i ≤ 9223372036854775807 ∧ ZInts w (Az i) (mz i) (fz i)
section
variable {H : Type} {enc : TypeId × Value → H} {W : World} {b0 base : Nat} {sp : Nat → Bool} {held : Bool} {v : Value} {d : DataW H} {ps : List MemPlace}
set_option maxRecDepth 100000 in
theorem zone_parts {n : Nat} {cs : List Value} {x : DataW H × List MemPlace} (h : DataW.trod enc Tryd.prog W base sp held n 31 cs = some x) :
    ∃ (N : Int) (A : Option Addr) (m cap : Nat) (f : Nat → Int), cs = [.int .i64 N, .slice A m cap] ∧ m ≤ cap ∧ m ≤ 9223372036854775807 ∧ ZInts W A m f := by
  obtain ⟨y0, y1, k, -, hl, h0, h1⟩ := trod_struct2 Tryd.underlying31 h
  rw [cells_zone] at hl
  match cs, hl with
  | [c0, c1], _ =>
    rw [cells_int] at h0
    rw [cells_row] at h1
    obtain ⟨p, e0, -, -⟩ := DataW.trod_int Tryd.underlying3 (show DataW.trod enc Tryd.prog W base sp held k 3 [c0] = some y0 from h0)
    simp only [List.cons.injEq, and_true] at e0
    subst e0
    rcases open_ints Tryd.underlying29 Tryd.underlying3 cells_int (show DataW.trod enc Tryd.prog W base sp held k 29 [c1] = some y1 from h1) with ⟨hcs, _⟩ | ⟨a, l, c, zs, hcs, _, hl, hm, hz, _, hcell, hwz⟩
    · simp only [List.cons.injEq, and_true] at hcs
      subst hcs
      exact ⟨p, none, 0, 0, fun _ => 0, rfl, by omega, by omega, fun h => absurd h (by omega)⟩
    · simp only [List.cons.injEq, and_true] at hcs
      subst hcs
      have hzl : l ≤ zs.length := by rw [hz]; split <;> omega
      refine ⟨p, some a, l, c, fun j => zs.getD j 0, rfl, hl, by unfold maxLen at hm; omega, fun h0 => ?_⟩
      obtain ⟨b, off, rfl, hc⟩ := ints_at hcell (by omega)
      exact ⟨b, off, rfl, World.block_lt_of_cell? W _ (hc 0 (by omega)), fun j hj => hc j (by omega)⟩
theorem plain_add (b off k : Nat) : (⟨b, off, none⟩ : Addr).add k = ⟨b, off + k, none⟩ := by simp [Addr.add]
end
end Go.Proofs.YtlkbapcienjdcaaDoor
