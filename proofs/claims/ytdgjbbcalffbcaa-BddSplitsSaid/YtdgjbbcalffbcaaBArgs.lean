/- What an argument's value is, by its type. -/
import Derived.Test.YtdgjbbcalffbcaaRows
import Derived.Test.YtdgjbbcalffbcaaBBase
import Derived.ProofKit
import Derived.OpenShut
import Derived.Stop.Joined
import Derived.Lib.SmallJoins
import Derived.Deep.Slices
import Derived.Deep.Fields
import Derived.ChangeSame
import Derived.SevenTiedAt
import Derived.ChangeOld
namespace Go.Proofs.Ytdgjbbcalffbcaa
open Go.ChangeShapes Go.WideShapes Go.ChangeAt Go.RowKit Go.Joins

theorem own : ownKnob Try.prog.godebug = none := by kernel_rfl
theorem laidOut : laidOutB Try.prog = true := by kernel_rfl
theorem cellsInt : Try.prog.cellsOf 3 = 1 := by kernel_rfl
theorem cellsBool : Try.prog.cellsOf 4 = 1 := by kernel_rfl
theorem cellsOp : Try.prog.cellsOf 31 = 6 := by kernel_rfl
/-- A piece of a script. -/
structure Opn where
  kind : Int
  v : Int
  a : Int
  b : Int
  c : Int
  yes : Bool
def opV (o : Opn) : Value := .agg #[.int .i64 o.kind, .int .i64 o.v, .int .i64 o.a, .int .i64 o.b, .int .i64 o.c, .bool o.yes]
/-- A row of a script's pieces. -/
def Ops (w : World) (A : Option Addr) (m : Nat) (f : Nat → Opn) : Prop :=
  0 < m → ∃ b off, A = some ⟨b, off, none⟩ ∧ b < w.heap.size ∧ ∀ j, j < m → w.cell? ⟨b, off + j * 6, none⟩ = some (.int .i64 (f j).kind) ∧ w.cell? ⟨b, off + j * 6 + 1, none⟩ = some (.int .i64 (f j).v) ∧ w.cell? ⟨b, off + j * 6 + 2, none⟩ = some (.int .i64 (f j).a) ∧ w.cell? ⟨b, off + j * 6 + 3, none⟩ = some (.int .i64 (f j).b) ∧ w.cell? ⟨b, off + j * 6 + 4, none⟩ = some (.int .i64 (f j).c) ∧ w.cell? ⟨b, off + j * 6 + 5, none⟩ = some (.bool (f j).yes)
theorem Ops.below {w w' : World} {A : Option Addr} {m : Nat} {f : Nat → Opn} (h : Ops w A m f) (hb : Below w.heap.size w w') : Ops w' A m f := fun hm => by
  obtain ⟨b, off, rfl, hlt, hc⟩ := h hm
  refine ⟨b, off, rfl, Nat.lt_of_lt_of_le hlt hb.size, fun j hj => ?_⟩
  obtain ⟨h0, h1, h2, h3, h4, h5⟩ := hc j hj
  exact ⟨(hb.cell (p := ⟨b, _, none⟩) hlt).trans h0, (hb.cell (p := ⟨b, _, none⟩) hlt).trans h1, (hb.cell (p := ⟨b, _, none⟩) hlt).trans h2, (hb.cell (p := ⟨b, _, none⟩) hlt).trans h3, (hb.cell (p := ⟨b, _, none⟩) hlt).trans h4, (hb.cell (p := ⟨b, _, none⟩) hlt).trans h5⟩

section
variable {H : Type} {enc : TypeId × Value → H} {W : World} {b0 base : Nat} {sp : Nat → Bool} {held : Bool} {v : Value} {d : DataW H} {ps : List MemPlace}
set_option maxRecDepth 100000 in
theorem val_int (hv : Value.okWide Try.prog W .any b0 3 v) (hd : DataW.Trod enc Try.prog W base sp held 3 v d ps) : ∃ x : Int, v = .int .i64 x ∧ -9223372036854775808 ≤ x ∧ x ≤ 9223372036854775807 := by
  obtain ⟨a, rfl, -, -, hw⟩ := open_int Try.underlying3 hv hd
  refine ⟨a, rfl, ?_⟩
  have h1 : IntKind.i64.min = -9223372036854775808 := by decide
  have h2 : IntKind.i64.max = 9223372036854775807 := by decide
  simpa [Lit.wf, h1, h2] using hw
set_option maxRecDepth 100000 in
/-- Six cells that read as a piece of a script. -/
theorem op_nums {n : Nat} {cs : List Value} {x : DataW H × List MemPlace} (h : DataW.trod enc Try.prog W base sp held n 31 cs = some x) : ∃ o : Opn, cs = [.int .i64 o.kind, .int .i64 o.v, .int .i64 o.a, .int .i64 o.b, .int .i64 o.c, .bool o.yes] := by
  obtain ⟨xs, m, -, -, hl, hlen, hel⟩ := DataW.trod_struct Try.underlying31 h
  rw [cellsOp] at hl
  match cs, hl, xs, hlen with
  | [c0, c1, c2, c3, c4, c5], _, [y0, y1, y2, y3, y4, y5], _ =>
    have e0 : DataW.trod enc Try.prog W base sp held m 3 (([c0, c1, c2, c3, c4, c5].drop 0).take (Try.prog.cellsOf 3)) = some y0 := hel 0 _ rfl
    have e1 : DataW.trod enc Try.prog W base sp held m 3 (([c0, c1, c2, c3, c4, c5].drop 1).take (Try.prog.cellsOf 3)) = some y1 := hel 1 _ rfl
    have e2 : DataW.trod enc Try.prog W base sp held m 3 (([c0, c1, c2, c3, c4, c5].drop 2).take (Try.prog.cellsOf 3)) = some y2 := hel 2 _ rfl
    have e3 : DataW.trod enc Try.prog W base sp held m 3 (([c0, c1, c2, c3, c4, c5].drop 3).take (Try.prog.cellsOf 3)) = some y3 := hel 3 _ rfl
    have e4 : DataW.trod enc Try.prog W base sp held m 3 (([c0, c1, c2, c3, c4, c5].drop 4).take (Try.prog.cellsOf 3)) = some y4 := hel 4 _ rfl
    have e5 : DataW.trod enc Try.prog W base sp held m 4 (([c0, c1, c2, c3, c4, c5].drop 5).take (Try.prog.cellsOf 4)) = some y5 := hel 5 _ rfl
    rw [cellsInt] at e0 e1 e2 e3 e4
    rw [cellsBool] at e5
    obtain ⟨x0, h0, -, -⟩ := DataW.trod_int Try.underlying3 (show DataW.trod enc Try.prog W base sp held m 3 [c0] = some y0 from e0)
    obtain ⟨x1, h1, -, -⟩ := DataW.trod_int Try.underlying3 (show DataW.trod enc Try.prog W base sp held m 3 [c1] = some y1 from e1)
    obtain ⟨x2, h2, -, -⟩ := DataW.trod_int Try.underlying3 (show DataW.trod enc Try.prog W base sp held m 3 [c2] = some y2 from e2)
    obtain ⟨x3, h3, -, -⟩ := DataW.trod_int Try.underlying3 (show DataW.trod enc Try.prog W base sp held m 3 [c3] = some y3 from e3)
    obtain ⟨x4, h4, -, -⟩ := DataW.trod_int Try.underlying3 (show DataW.trod enc Try.prog W base sp held m 3 [c4] = some y4 from e4)
    obtain ⟨x5, h5, -⟩ := DataW.trod_bool Try.underlying4 (show DataW.trod enc Try.prog W base sp held m 4 [c5] = some y5 from e5)
    simp only [List.cons.injEq, and_true] at h0 h1 h2 h3 h4 h5
    exact ⟨⟨x0, x1, x2, x3, x4, x5⟩, by rw [h0, h1, h2, h3, h4, h5]⟩
set_option maxRecDepth 100000 in
theorem val_ops (hv : Value.okWide Try.prog W .any b0 22 v) (hd : DataW.Trod enc Try.prog W base sp held 22 v d ps) : ∃ (A : Option Addr) (m cap : Nat) (f : Nat → Opn), v = .slice A m cap ∧ m ≤ cap ∧ m ≤ 9223372036854775807 ∧ Ops W A m f := by
  obtain ⟨A, len, cap, rfl⟩ := okWide_slice Try.underlying22 hv
  obtain ⟨fuel, hf⟩ := hd
  rcases Deep.open_slice Try.underlying22 hf with ⟨hcs, _⟩ | ⟨a, l, c, m, n, D, Pl, hcs, _, hl, hm, hmm, _, hi⟩
  · simp [Value.cells] at hcs
    obtain ⟨rfl, rfl, rfl⟩ := hcs
    exact ⟨none, 0, 0, fun _ => ⟨0, 0, 0, 0, 0, false⟩, rfl, by omega, by omega, fun h => absurd h (by omega)⟩
  · simp [Value.cells] at hcs
    obtain ⟨rfl, rfl, rfl⟩ := hcs
    have hlm : len ≤ m := by rw [hmm]; split <;> omega
    rw [cellsOp] at hi
    have key : ∀ i, ∃ o : Opn, i < len → W.cell? (a.add (i * 6)) = some (.int .i64 o.kind) ∧ W.cell? ((a.add (i * 6)).add 1) = some (.int .i64 o.v) ∧ W.cell? ((a.add (i * 6)).add 2) = some (.int .i64 o.a) ∧ W.cell? ((a.add (i * 6)).add 3) = some (.int .i64 o.b) ∧ W.cell? ((a.add (i * 6)).add 4) = some (.int .i64 o.c) ∧ W.cell? ((a.add (i * 6)).add 5) = some (.bool o.yes) := fun i => by
      by_cases him : i < len
      · obtain ⟨cs, hc, ht⟩ := hi i (by omega)
        obtain ⟨o, rfl⟩ := op_nums ht
        obtain ⟨-, -, hat⟩ := World.cells?_some hc
        refine ⟨o, fun _ => ⟨?_, hat 1 (by omega), hat 2 (by omega), hat 3 (by omega), hat 4 (by omega), hat 5 (by omega)⟩⟩
        have h0 := hat 0 (by omega)
        simpa [Addr.add] using h0
      · exact ⟨⟨0, 0, 0, 0, 0, false⟩, fun h => absurd h him⟩
    obtain ⟨f, all⟩ : ∃ f : Nat → Opn, ∀ i, i < len → W.cell? (a.add (i * 6)) = some (.int .i64 (f i).kind) ∧ W.cell? ((a.add (i * 6)).add 1) = some (.int .i64 (f i).v) ∧ W.cell? ((a.add (i * 6)).add 2) = some (.int .i64 (f i).a) ∧ W.cell? ((a.add (i * 6)).add 3) = some (.int .i64 (f i).b) ∧ W.cell? ((a.add (i * 6)).add 4) = some (.int .i64 (f i).c) ∧ W.cell? ((a.add (i * 6)).add 5) = some (.bool (f i).yes) :=
      ⟨fun i => (key i).choose, fun i => (key i).choose_spec⟩
    clear key
    refine ⟨some a, len, cap, f, rfl, hl, by unfold maxLen at hm; omega, fun h0 => ?_⟩
    obtain ⟨b, off, spot⟩ := a
    have hs : spot = none := by simpa [Addr.add] using World.cell?_spot (all 0 h0).1
    subst hs
    refine ⟨b, off, rfl, ?_, fun j hj => ?_⟩
    · have := World.block_lt_of_cell? W _ (all 0 h0).1
      rw [add_plain] at this
      exact this
    · have := all j hj
      rw [add_plain, add_plain, add_plain, add_plain, add_plain, add_plain] at this
      exact this
end
end Go.Proofs.Ytdgjbbcalffbcaa
