/- What an argument's value is, by its type. -/
import Derived.Test.YtchipmiklbnedabRows
import Derived.Test.YtchipmiklbnedabMRefGet
import Derived.ProofKit
import Derived.OpenShut
import Derived.Stop.Joined
import Derived.Lib.SmallJoins
import Derived.Deep.Slices
import Derived.Deep.Fields
import Derived.ChangeSame
import Derived.SevenTiedAt
import Derived.ChangeOld
import Derived.WalkKit
namespace Go.Proofs.Ytchipmiklbnedab
open Go.ChangeShapes Go.WideShapes Go.ChangeAt Go.RowKit Go.Joins

theorem own : ownKnob Try.prog.godebug = none := by kernel_rfl
theorem laidOut : laidOutB Try.prog = true := by kernel_rfl
theorem cells_three : Try.prog.cellsOf 28 = 3 := by kernel_rfl
theorem cells_put : Try.prog.cellsOf 30 = 4 := by kernel_rfl
theorem cells_two : Try.prog.cellsOf 42 = 8 := by kernel_rfl

section
variable {H : Type} {enc : TypeId × Value → H} {W : World} {b0 base : Nat} {sp : Nat → Bool} {held : Bool} {v : Value} {d : DataW H} {ps : List MemPlace}

theorem val_int (hv : Value.okWide Try.prog W .any b0 3 v) (hd : DataW.Trod enc Try.prog W base sp held 3 v d ps) : ∃ x : Int, v = .int .i64 x := by
  obtain ⟨a, rfl, -, -, -⟩ := open_int Try.underlying3 hv hd
  exact ⟨a, rfl⟩
/-- Three cells that read as an array are three numbers. -/
theorem three_nums {n : Nat} {cs : List Value} {x : DataW H × List MemPlace} (h : DataW.trod enc Try.prog W base sp held n 28 cs = some x) : ∃ p q r : Int, cs = [.int .i64 p, .int .i64 q, .int .i64 r] := by
  obtain ⟨xs, m, -, -, hl, hlen, hel⟩ := DataW.trod_array Try.underlying28 h
  rw [cells_three] at hl
  match cs, hl, xs, hlen with
  | [c0, c1, c2], _, [y0, y1, y2], _ =>
    have e0 := hel 0 (by decide)
    have e1 := hel 1 (by decide)
    have e2 := hel 2 (by decide)
    rw [cellsInt] at e0 e1 e2
    obtain ⟨x, hx, -, -⟩ := DataW.trod_int Try.underlying3 (show DataW.trod enc Try.prog W base sp held m 3 [c0] = some y0 from e0)
    obtain ⟨y, hy, -, -⟩ := DataW.trod_int Try.underlying3 (show DataW.trod enc Try.prog W base sp held m 3 [c1] = some y1 from e1)
    obtain ⟨z, hz, -, -⟩ := DataW.trod_int Try.underlying3 (show DataW.trod enc Try.prog W base sp held m 3 [c2] = some y2 from e2)
    simp only [List.cons.injEq, and_true] at hx hy hz
    exact ⟨x, y, z, by rw [hx, hy, hz]⟩
/-- Four cells that read as a put are four numbers. -/
theorem put_nums {n : Nat} {cs : List Value} {x : DataW H × List MemPlace} (h : DataW.trod enc Try.prog W base sp held n 30 cs = some x) : ∃ p q r v : Int, cs = [.int .i64 p, .int .i64 q, .int .i64 r, .int .i64 v] := by
  obtain ⟨y0, y1, k, -, hl, h0, h1⟩ := trod_struct2 Try.underlying30 h
  rw [cells_put] at hl
  match cs, hl with
  | [c0, c1, c2, c3], _ =>
    rw [cells_three] at h0
    rw [cellsInt] at h1
    obtain ⟨p, q, r, e0⟩ := three_nums (show DataW.trod enc Try.prog W base sp held k 28 [c0, c1, c2] = some y0 from h0)
    obtain ⟨v, e1, -, -⟩ := DataW.trod_int Try.underlying3 (show DataW.trod enc Try.prog W base sp held k 3 [c3] = some y1 from h1)
    simp only [List.cons.injEq, and_true] at e0 e1
    obtain ⟨e0, e2, e3⟩ := e0
    exact ⟨p, q, r, v, by rw [e0, e1, e2, e3]⟩
theorem val_three (hv : Value.okWide Try.prog W .any b0 28 v) (hd : DataW.Trod enc Try.prog W base sp held 28 v d ps) : ∃ x y z : Int, v = .agg #[.int .i64 x, .int .i64 y, .int .i64 z] := by
  simp only [Value.okWide, Try.underlying28] at hv
  obtain ⟨cs, rfl, hsz, _⟩ := hv
  obtain ⟨l⟩ := cs
  obtain ⟨fuel, hf⟩ := hd
  obtain ⟨p, q, r, h⟩ := three_nums hf
  exact ⟨p, q, r, by simpa [Value.cells] using h⟩
theorem val_puts (hv : Value.okWide Try.prog W .any b0 22 v) (hd : DataW.Trod enc Try.prog W base sp held 22 v d ps) : ∃ (A : Option Addr) (m cap : Nat) (f : Nat → Ky × Int), v = .slice A m cap ∧ m ≤ cap ∧ m ≤ 9223372036854775807 ∧ Puts W A m f := by
  obtain ⟨A, len, cap, rfl⟩ := okWide_slice Try.underlying22 hv
  obtain ⟨fuel, hf⟩ := hd
  rcases Deep.open_slice Try.underlying22 hf with ⟨hcs, _⟩ | ⟨a, l, c, m, n, D, Pl, hcs, _, hl, hm, hmm, _, hi⟩
  · simp [Value.cells] at hcs
    obtain ⟨rfl, rfl, rfl⟩ := hcs
    exact ⟨none, 0, 0, fun _ => ((0, 0, 0), 0), rfl, by omega, by omega, fun h => absurd h (by omega)⟩
  · simp [Value.cells] at hcs
    obtain ⟨rfl, rfl, rfl⟩ := hcs
    have hlm : len ≤ m := by rw [hmm]; split <;> omega
    rw [cells_put] at hi
    have key : ∀ i, ∃ x : Ky × Int, i < len → W.cell? (a.add (i * 4)) = some (.int .i64 x.1.1) ∧ W.cell? ((a.add (i * 4)).add 1) = some (.int .i64 x.1.2.1) ∧ W.cell? ((a.add (i * 4)).add 2) = some (.int .i64 x.1.2.2) ∧ W.cell? ((a.add (i * 4)).add 3) = some (.int .i64 x.2) := fun i => by
      by_cases him : i < len
      · obtain ⟨cs, hc, ht⟩ := hi i (by omega)
        obtain ⟨p, q, r, v, rfl⟩ := put_nums ht
        obtain ⟨-, -, hat⟩ := World.cells?_some hc
        refine ⟨((p, q, r), v), fun _ => ⟨?_, hat 1 (by omega), hat 2 (by omega), hat 3 (by omega)⟩⟩
        have h0 := hat 0 (by omega)
        simpa [Addr.add] using h0
      · exact ⟨((0, 0, 0), 0), fun h => absurd h him⟩
    obtain ⟨f, all⟩ : ∃ f : Nat → Ky × Int, ∀ i, i < len → W.cell? (a.add (i * 4)) = some (.int .i64 (f i).1.1) ∧ W.cell? ((a.add (i * 4)).add 1) = some (.int .i64 (f i).1.2.1) ∧ W.cell? ((a.add (i * 4)).add 2) = some (.int .i64 (f i).1.2.2) ∧ W.cell? ((a.add (i * 4)).add 3) = some (.int .i64 (f i).2) :=
      ⟨fun i => (key i).choose, fun i => (key i).choose_spec⟩
    clear key
    refine ⟨some a, len, cap, f, rfl, hl, by unfold maxLen at hm; omega, fun h0 => ?_⟩
    obtain ⟨b, off, spot⟩ := a
    have hs : spot = none := by simpa [Addr.add] using World.cell?_spot (all 0 h0).1
    subst hs
    refine ⟨b, off, rfl, ?_, fun j hj => ?_⟩
    · have := World.block_lt_of_cell? W _ (all 0 h0).1
      rw [add_plain] at this
      exact this
    · have := all j hj
      rw [add_plain, add_plain, add_plain, add_plain] at this
      exact this
end
end Go.Proofs.Ytchipmiklbnedab
