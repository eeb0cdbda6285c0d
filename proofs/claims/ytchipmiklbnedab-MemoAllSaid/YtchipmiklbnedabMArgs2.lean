/- What an argument holds that is two puts; that is a row of keys. -/
import Derived.Test.YtchipmiklbnedabMArgs
namespace Go.Proofs.Ytchipmiklbnedab
open Go.ChangeShapes Go.WideShapes Go.ChangeAt Go.RowKit Go.Joins

/-- A row of keys. -/
def Keys (w : World) (A : Option Addr) (m : Nat) (f : Nat → Ky) : Prop :=
  0 < m → ∃ b off, A = some ⟨b, off, none⟩ ∧ b < w.heap.size ∧ ∀ j, j < m → w.cell? ⟨b, off + j * 3, none⟩ = some (.int .i64 (f j).1) ∧ w.cell? ⟨b, off + j * 3 + 1, none⟩ = some (.int .i64 (f j).2.1) ∧ w.cell? ⟨b, off + j * 3 + 2, none⟩ = some (.int .i64 (f j).2.2)
section
variable {H : Type} {enc : TypeId × Value → H} {W : World} {b0 base : Nat} {sp : Nat → Bool} {held : Bool} {v : Value} {d : DataW H} {ps : List MemPlace}
theorem val_twoputs (hv : Value.okWide Try.prog W .any b0 42 v) (hd : DataW.Trod enc Try.prog W base sp held 42 v d ps) : ∃ a1 a2 a3 a4 b1 b2 b3 b4 : Int, v = .agg #[.int .i64 a1, .int .i64 a2, .int .i64 a3, .int .i64 a4, .int .i64 b1, .int .i64 b2, .int .i64 b3, .int .i64 b4] := by
  simp only [Value.okWide, Try.underlying42] at hv
  obtain ⟨cs, rfl, hsz, _⟩ := hv
  obtain ⟨l⟩ := cs
  obtain ⟨fuel, hf⟩ := hd
  obtain ⟨xs, m, -, -, hl, hlen, hel⟩ := DataW.trod_array Try.underlying42 hf
  rw [cells_two] at hl
  match l, hl, xs, hlen with
  | [c0, c1, c2, c3, c4, c5, c6, c7], _, [y0, y1], _ =>
    have e0 := hel 0 (by decide)
    have e1 := hel 1 (by decide)
    rw [cells_put] at e0 e1
    obtain ⟨a1, a2, a3, a4, h0⟩ := put_nums (show DataW.trod enc Try.prog W base sp held m 30 [c0, c1, c2, c3] = some y0 from e0)
    obtain ⟨b1, b2, b3, b4, h1⟩ := put_nums (show DataW.trod enc Try.prog W base sp held m 30 [c4, c5, c6, c7] = some y1 from e1)
    simp only [List.cons.injEq, and_true] at h0 h1
    obtain ⟨p0, p1, p2, p3⟩ := h0
    obtain ⟨q0, q1, q2, q3⟩ := h1
    exact ⟨a1, a2, a3, a4, b1, b2, b3, b4, by rw [p0, p1, p2, p3, q0, q1, q2, q3]⟩
theorem val_threes (hv : Value.okWide Try.prog W .any b0 23 v) (hd : DataW.Trod enc Try.prog W base sp held 23 v d ps) : ∃ (A : Option Addr) (m cap : Nat) (f : Nat → Ky), v = .slice A m cap ∧ m ≤ cap ∧ m ≤ 9223372036854775807 ∧ Keys W A m f := by
  obtain ⟨A, len, cap, rfl⟩ := okWide_slice Try.underlying23 hv
  obtain ⟨fuel, hf⟩ := hd
  rcases Deep.open_slice Try.underlying23 hf with ⟨hcs, _⟩ | ⟨a, l, c, m, n, D, Pl, hcs, _, hl, hm, hmm, _, hi⟩
  · simp [Value.cells] at hcs
    obtain ⟨rfl, rfl, rfl⟩ := hcs
    exact ⟨none, 0, 0, fun _ => (0, 0, 0), rfl, by omega, by omega, fun h => absurd h (by omega)⟩
  · simp [Value.cells] at hcs
    obtain ⟨rfl, rfl, rfl⟩ := hcs
    have hlm : len ≤ m := by rw [hmm]; split <;> omega
    rw [cells_three] at hi
    have key : ∀ i, ∃ x : Ky, i < len → W.cell? (a.add (i * 3)) = some (.int .i64 x.1) ∧ W.cell? ((a.add (i * 3)).add 1) = some (.int .i64 x.2.1) ∧ W.cell? ((a.add (i * 3)).add 2) = some (.int .i64 x.2.2) := fun i => by
      by_cases him : i < len
      · obtain ⟨cs, hc, ht⟩ := hi i (by omega)
        obtain ⟨p, q, r, rfl⟩ := three_nums ht
        obtain ⟨-, -, hat⟩ := World.cells?_some hc
        refine ⟨(p, q, r), fun _ => ⟨?_, hat 1 (by omega), hat 2 (by omega)⟩⟩
        have h0 := hat 0 (by omega)
        simpa [Addr.add] using h0
      · exact ⟨(0, 0, 0), fun h => absurd h him⟩
    obtain ⟨f, all⟩ : ∃ f : Nat → Ky, ∀ i, i < len → W.cell? (a.add (i * 3)) = some (.int .i64 (f i).1) ∧ W.cell? ((a.add (i * 3)).add 1) = some (.int .i64 (f i).2.1) ∧ W.cell? ((a.add (i * 3)).add 2) = some (.int .i64 (f i).2.2) :=
      ⟨fun i => (key i).choose, fun i => (key i).choose_spec⟩
    clear key
    refine ⟨some a, len, cap, f, rfl, hl, by unfold maxLen at hm; omega, fun h0 => ?_⟩
    obtain ⟨b, off, spot⟩ := a
    have hs : spot = none := by simpa [Addr.add] using World.cell?_spot (all 0 h0).1
    subst hs
    refine ⟨b, off, rfl, ?_, fun j hj => ?_⟩
    · have := World.block_lt_of_cell? W _ (all 0 h0).1
      rw [add_plain] at this
      exact this
    · have := all j hj
      rw [add_plain, add_plain, add_plain] at this
      exact this
end
end Go.Proofs.Ytchipmiklbnedab
