/- What an argument that is a row of zones of the document's holds. -/
import Derived.Test.YtimckaphmfidhaaDoorZVal
namespace Go.Proofs.YtimckaphmfidhaaDoor
open Go.ChangeShapes Go.WideShapes Go.ChangeAt Go.RowKit Go.Joins

theorem cells_row : Tryd.prog.cellsOf 22 = 1 := by kernel_rfl
/-- A row of zones: each one's N, its slice, and what that holds. -/
def ZRow (w : World) (A : Option Addr) (k : Nat) (X : Nat → Int) (Az : Nat → Option Addr) (mz cz : Nat → Nat) (fz : Nat → Nat → Int) : Prop :=
  0 < k → ∃ b off, A = some ⟨b, off, none⟩ ∧ b < w.heap.size ∧ ∀ i, i < k → w.cell? ⟨b, off + i * 2, none⟩ = some (.int .i64 (X i)) ∧ w.cell? ⟨b, off + i * 2 + 1, none⟩ = some (.slice (Az i) (mz i) (cz i)) ∧ mz i ≤ cz i ∧ mz i ≤ 9223372036854775807 ∧ ZInts w (Az i) (mz i) (fz i)
section
variable {H : Type} {enc : TypeId × Value → H} {W : World} {b0 base : Nat} {sp : Nat → Bool} {held : Bool} {v : Value} {d : DataW H} {ps : List MemPlace}
set_option maxRecDepth 100000 in
theorem zone_parts {n : Nat} {cs : List Value} {x : DataW H × List MemPlace} (h : DataW.trod enc Tryd.prog W base sp held n 24 cs = some x) :
    ∃ (N : Int) (A : Option Addr) (m cap : Nat) (f : Nat → Int), cs = [.int .i64 N, .slice A m cap] ∧ m ≤ cap ∧ m ≤ 9223372036854775807 ∧ ZInts W A m f := by
  obtain ⟨y0, y1, k, -, hl, h0, h1⟩ := trod_struct2 Tryd.underlying24 h
  rw [cells_zone] at hl
  match cs, hl with
  | [c0, c1], _ =>
    rw [cells_int] at h0
    rw [cells_row] at h1
    obtain ⟨p, e0, -, -⟩ := DataW.trod_int Tryd.underlying3 (show DataW.trod enc Tryd.prog W base sp held k 3 [c0] = some y0 from h0)
    simp only [List.cons.injEq, and_true] at e0
    subst e0
    rcases open_ints Tryd.underlying22 Tryd.underlying3 cells_int (show DataW.trod enc Tryd.prog W base sp held k 22 [c1] = some y1 from h1) with ⟨hcs, _⟩ | ⟨a, l, c, zs, hcs, _, hl, hm, hz, _, hcell, hwz⟩
    · simp only [List.cons.injEq, and_true] at hcs
      subst hcs
      exact ⟨p, none, 0, 0, fun _ => 0, rfl, by omega, by omega, fun h => absurd h (by omega)⟩
    · simp only [List.cons.injEq, and_true] at hcs
      subst hcs
      have hzl : l ≤ zs.length := by rw [hz]; split <;> omega
      refine ⟨p, some a, l, c, fun j => zs.getD j 0, rfl, hl, by unfold maxLen at hm; omega, fun h0 => ?_⟩
      obtain ⟨b, off, rfl, hc⟩ := ints_at hcell (by omega)
      exact ⟨b, off, rfl, World.block_lt_of_cell? W _ (hc 0 (by omega)), fun j hj => hc j (by omega)⟩
theorem plain_add (b off k : Nat) : (⟨b, off, none⟩ : Addr).add k = ⟨b, off + k, none⟩ := by simp [Addr.add]
set_option maxRecDepth 100000 in
theorem val_zones (hv : Value.okWide Tryd.prog W .any b0 38 v) (hd : DataW.Trod enc Tryd.prog W base sp held 38 v d ps) :
    ∃ (A : Option Addr) (m cap : Nat) (X : Nat → Int) (Az : Nat → Option Addr) (mz cz : Nat → Nat) (fz : Nat → Nat → Int), v = .slice A m cap ∧ m ≤ cap ∧ m ≤ 9223372036854775807 ∧ ZRow W A m X Az mz cz fz := by
  obtain ⟨A, len, cap, rfl⟩ := okWide_slice Tryd.underlying38 hv
  obtain ⟨fuel, hf⟩ := hd
  rcases Deep.open_slice Tryd.underlying38 hf with ⟨hcs, _⟩ | ⟨a, l, c, m, n, D, Pl, hcs, _, hl, hm, hmm, _, hi⟩
  · simp [Value.cells] at hcs
    obtain ⟨rfl, rfl, rfl⟩ := hcs
    exact ⟨none, 0, 0, fun _ => 0, fun _ => none, fun _ => 0, fun _ => 0, fun _ _ => 0, rfl, by omega, by omega, fun h => absurd h (by omega)⟩
  · simp [Value.cells] at hcs
    obtain ⟨rfl, rfl, rfl⟩ := hcs
    have hlm : len ≤ m := by rw [hmm]; split <;> omega
    rw [cells_zone] at hi
    have key : ∀ i, ∃ (N : Int) (Az : Option Addr) (mz cz : Nat) (fz : Nat → Int), i < len → W.cell? (a.add (i * 2)) = some (.int .i64 N) ∧ W.cell? ((a.add (i * 2)).add 1) = some (.slice Az mz cz) ∧ mz ≤ cz ∧ mz ≤ 9223372036854775807 ∧ ZInts W Az mz fz := fun i => by
      by_cases him : i < len
      · obtain ⟨cs, hc, ht⟩ := hi i (by omega)
        obtain ⟨N, Az, mz, cz, fz, rfl, h1, h2, h3⟩ := zone_parts ht
        obtain ⟨-, -, hat⟩ := World.cells?_some hc
        refine ⟨N, Az, mz, cz, fz, fun _ => ⟨?_, hat 1 (by omega), h1, h2, h3⟩⟩
        have h0 := hat 0 (by omega)
        simpa [Addr.add] using h0
      · exact ⟨0, none, 0, 0, fun _ => 0, fun h => absurd h him⟩
    obtain ⟨X, Az, mz, cz, fz, all⟩ : ∃ (X : Nat → Int) (Az : Nat → Option Addr) (mz cz : Nat → Nat) (fz : Nat → Nat → Int), ∀ i, i < len → W.cell? (a.add (i * 2)) = some (.int .i64 (X i)) ∧ W.cell? ((a.add (i * 2)).add 1) = some (.slice (Az i) (mz i) (cz i)) ∧ mz i ≤ cz i ∧ mz i ≤ 9223372036854775807 ∧ ZInts W (Az i) (mz i) (fz i) :=
      ⟨fun i => (key i).choose, fun i => (key i).choose_spec.choose, fun i => (key i).choose_spec.choose_spec.choose, fun i => (key i).choose_spec.choose_spec.choose_spec.choose, fun i => (key i).choose_spec.choose_spec.choose_spec.choose_spec.choose, fun i => (key i).choose_spec.choose_spec.choose_spec.choose_spec.choose_spec⟩
    clear key
    refine ⟨some a, len, cap, X, Az, mz, cz, fz, rfl, hl, by unfold maxLen at hm; omega, fun h0 => ?_⟩
    obtain ⟨b, off, spot⟩ := a
    have hs : spot = none := by simpa [Addr.add] using World.cell?_spot (all 0 h0).1
    subst hs
    refine ⟨b, off, rfl, World.block_lt_of_cell? W _ (all 0 h0).1, fun j hj => ?_⟩
    have := all j hj
    rw [plain_add, plain_add] at this
    exact this
end
end Go.Proofs.YtimckaphmfidhaaDoor
