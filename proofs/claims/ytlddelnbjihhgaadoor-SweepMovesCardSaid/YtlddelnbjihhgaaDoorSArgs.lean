/- What an argument's value is, by its type. -/
import Derived.Test.YtlddelnbjihhgaaDoorRows
import Derived.Test.YtlddelnbjihhgaaDoorSMark
import Derived.ProofKit
import Derived.OpenShut
import Derived.Stop.Joined
import Derived.Lib.SmallJoins
import Derived.Deep.Slices
import Derived.Deep.Fields
import Derived.ChangeSame
import Derived.SevenTiedAt
import Derived.ChangeOld
namespace Go.Proofs.YtlddelnbjihhgaaDoor
open Go.ChangeShapes Go.WideShapes Go.ChangeAt Go.RowKit Go.Joins

theorem own : ownKnob Tryd.prog.godebug = none := by kernel_rfl
theorem laidOut : laidOutB Tryd.prog = true := by kernel_rfl
theorem cellsInt : Tryd.prog.cellsOf 3 = 1 := by kernel_rfl
theorem cellsOp : Tryd.prog.cellsOf 92 = 3 := by kernel_rfl
section
variable {H : Type} {enc : TypeId × Value → H} {W : World} {b0 base : Nat} {sp : Nat → Bool} {held : Bool} {v : Value} {d : DataW H} {ps : List MemPlace}
set_option maxRecDepth 100000 in
theorem val_int (hv : Value.okWide Tryd.prog W .any b0 3 v) (hd : DataW.Trod enc Tryd.prog W base sp held 3 v d ps) : ∃ x : Int, v = .int .i64 x ∧ -9223372036854775808 ≤ x ∧ x ≤ 9223372036854775807 := by
  obtain ⟨a, rfl, -, -, hw⟩ := open_int Tryd.underlying3 hv hd
  refine ⟨a, rfl, ?_⟩
  have h1 : IntKind.i64.min = -9223372036854775808 := by decide
  have h2 : IntKind.i64.max = 9223372036854775807 := by decide
  simpa [Lit.wf, h1, h2] using hw
set_option maxRecDepth 100000 in
theorem val_word (hv : Value.okWide Tryd.prog W .any b0 181 v) (hd : DataW.Trod enc Tryd.prog W base sp held 181 v d ps) : ∃ x : Nat, x < 18446744073709551616 ∧ v = .int .u64 (x : Int) := by
  obtain ⟨a, rfl, -, -, hw⟩ := open_int Tryd.underlying181 hv hd
  have h1 : IntKind.u64.min = 0 := by decide
  have h2 : IntKind.u64.max = 18446744073709551615 := by decide
  have h : 0 ≤ a ∧ a ≤ 18446744073709551615 := by simpa [Lit.wf, h1, h2] using hw
  refine ⟨a.toNat, by omega, ?_⟩
  congr 1
  omega
set_option maxRecDepth 100000 in
/-- Three cells that read as a piece of a script are three numbers. -/
theorem op_nums {n : Nat} {cs : List Value} {x : DataW H × List MemPlace} (h : DataW.trod enc Tryd.prog W base sp held n 92 cs = some x) : ∃ p q r : Int, cs = [.int .i64 p, .int .i64 q, .int .i64 r] := by
  obtain ⟨xs, m, -, -, hl, hlen, hel⟩ := DataW.trod_struct Tryd.underlying92 h
  rw [cellsOp] at hl
  match cs, hl, xs, hlen with
  | [c0, c1, c2], _, [y0, y1, y2], _ =>
    have e0 : DataW.trod enc Tryd.prog W base sp held m 3 (([c0, c1, c2].drop 0).take (Tryd.prog.cellsOf 3)) = some y0 := hel 0 _ rfl
    have e1 : DataW.trod enc Tryd.prog W base sp held m 3 (([c0, c1, c2].drop 1).take (Tryd.prog.cellsOf 3)) = some y1 := hel 1 _ rfl
    have e2 : DataW.trod enc Tryd.prog W base sp held m 3 (([c0, c1, c2].drop 2).take (Tryd.prog.cellsOf 3)) = some y2 := hel 2 _ rfl
    rw [cellsInt] at e0 e1 e2
    obtain ⟨x, hx, -, -⟩ := DataW.trod_int Tryd.underlying3 (show DataW.trod enc Tryd.prog W base sp held m 3 [c0] = some y0 from e0)
    obtain ⟨y, hy, -, -⟩ := DataW.trod_int Tryd.underlying3 (show DataW.trod enc Tryd.prog W base sp held m 3 [c1] = some y1 from e1)
    obtain ⟨z, hz, -, -⟩ := DataW.trod_int Tryd.underlying3 (show DataW.trod enc Tryd.prog W base sp held m 3 [c2] = some y2 from e2)
    simp only [List.cons.injEq, and_true] at hx hy hz
    exact ⟨x, y, z, by rw [hx, hy, hz]⟩
set_option maxRecDepth 100000 in
theorem val_ops (hv : Value.okWide Tryd.prog W .any b0 42 v) (hd : DataW.Trod enc Tryd.prog W base sp held 42 v d ps) : ∃ (A : Option Addr) (m cap : Nat) (f : Nat → Nd), v = .slice A m cap ∧ m ≤ cap ∧ m ≤ 9223372036854775807 ∧ Ops W A m f := by
  obtain ⟨A, len, cap, rfl⟩ := okWide_slice Tryd.underlying42 hv
  obtain ⟨fuel, hf⟩ := hd
  rcases Deep.open_slice Tryd.underlying42 hf with ⟨hcs, _⟩ | ⟨a, l, c, m, n, D, Pl, hcs, _, hl, hm, hmm, _, hi⟩
  · simp [Value.cells] at hcs
    obtain ⟨rfl, rfl, rfl⟩ := hcs
    exact ⟨none, 0, 0, fun _ => (0, 0, 0), rfl, by omega, by omega, fun h => absurd h (by omega)⟩
  · simp [Value.cells] at hcs
    obtain ⟨rfl, rfl, rfl⟩ := hcs
    have hlm : len ≤ m := by rw [hmm]; split <;> omega
    rw [cellsOp] at hi
    have key : ∀ i, ∃ x : Nd, i < len → W.cell? (a.add (i * 3)) = some (.int .i64 x.1) ∧ W.cell? ((a.add (i * 3)).add 1) = some (.int .i64 x.2.1) ∧ W.cell? ((a.add (i * 3)).add 2) = some (.int .i64 x.2.2) := fun i => by
      by_cases him : i < len
      · obtain ⟨cs, hc, ht⟩ := hi i (by omega)
        obtain ⟨p, q, r, rfl⟩ := op_nums ht
        obtain ⟨-, -, hat⟩ := World.cells?_some hc
        refine ⟨(p, q, r), fun _ => ⟨?_, hat 1 (by omega), hat 2 (by omega)⟩⟩
        have h0 := hat 0 (by omega)
        simpa [Addr.add] using h0
      · exact ⟨(0, 0, 0), fun h => absurd h him⟩
    obtain ⟨f, all⟩ : ∃ f : Nat → Nd, ∀ i, i < len → W.cell? (a.add (i * 3)) = some (.int .i64 (f i).1) ∧ W.cell? ((a.add (i * 3)).add 1) = some (.int .i64 (f i).2.1) ∧ W.cell? ((a.add (i * 3)).add 2) = some (.int .i64 (f i).2.2) :=
      ⟨fun i => (key i).choose, fun i => (key i).choose_spec⟩
    clear key
    refine ⟨some a, len, cap, f, rfl, hl, by unfold maxLen at hm; omega, fun h0 => ?_⟩
    obtain ⟨b, off, spot⟩ := a
    have hs : spot = none := by simpa [Addr.add] using World.cell?_spot (all 0 h0).1
    subst hs
    refine ⟨b, off, rfl, ?_, fun j hj => ?_⟩
    · have := World.block_lt_of_cell? W _ (all 0 h0).1
      rw [add_plain] at this
      exact this
    · have := all j hj
      rw [add_plain, add_plain, add_plain] at this
      exact this
set_option maxRecDepth 100000 in
theorem val_ints (hv : Value.okWide Tryd.prog W .any b0 22 v) (hd : DataW.Trod enc Tryd.prog W base sp held 22 v d ps) : ∃ (A : Option Addr) (m cap : Nat) (f : Nat → Int), v = .slice A m cap ∧ m ≤ cap ∧ m ≤ 9223372036854775807 ∧ Ints W A m f := by
  obtain ⟨A, len, cap, rfl⟩ := okWide_slice Tryd.underlying22 hv
  obtain ⟨fuel, hf⟩ := hd
  rcases open_ints Tryd.underlying22 Tryd.underlying3 cellsInt hf with ⟨hcs, _⟩ | ⟨a, l, c, zs, hcs, _, hl, hm, hz, _, hcell, hwz⟩
  · simp [Value.cells] at hcs
    obtain ⟨rfl, rfl, rfl⟩ := hcs
    exact ⟨none, 0, 0, fun _ => 0, rfl, by omega, by omega, fun h => absurd h (by omega)⟩
  · simp [Value.cells] at hcs
    obtain ⟨rfl, rfl, rfl⟩ := hcs
    have hzl : len ≤ zs.length := by rw [hz]; split <;> omega
    refine ⟨some a, len, cap, fun j => zs.getD j 0, rfl, hl, by unfold maxLen at hm; omega, fun h0 => ?_⟩
    obtain ⟨b, off, rfl, hc⟩ := ints_at hcell (by omega)
    refine ⟨b, off, rfl, World.block_lt_of_cell? W _ (hc 0 (by omega)), fun j hj => hc j (by omega)⟩
end
end Go.Proofs.YtlddelnbjihhgaaDoor
