/- What an argument that is a slice of spans holds. -/
import Derived.Test.YtfdojbeckadalaaDoorArgs
import Derived.Test.YtfdojbeckadalaaDoorEndsWalk
namespace Go.Proofs.YtfdojbeckadalaaDoor
open Go.ChangeShapes Go.WideShapes Go.ChangeAt Go.RowKit

section
variable {H : Type} {enc : TypeId × Value → H} {W : World} {b0 base : Nat} {sp : Nat → Bool} {held : Bool} {v : Value} {d : DataW H} {ps : List MemPlace}

/-- Two cells that read as a span are two numbers. -/
theorem two_nums {n : Nat} {cs : List Value} {x : DataW H × List MemPlace} (h : DataW.trod enc Tryd.prog W base sp held n 23 cs = some x) : ∃ p q : Int, cs = [.int .i64 p, .int .i64 q] := by
  obtain ⟨y0, y1, k, -, hl, h0, h1⟩ := trod_struct2 Tryd.underlying23 h
  rw [cells23] at hl
  match cs, hl with
  | [c0, c1], _ =>
    rw [cells3] at h0 h1
    obtain ⟨p, e0, -, -⟩ := DataW.trod_int Tryd.underlying3 (show DataW.trod enc Tryd.prog W base sp held k 3 [c0] = some y0 from h0)
    obtain ⟨q, e1, -, -⟩ := DataW.trod_int Tryd.underlying3 (show DataW.trod enc Tryd.prog W base sp held k 3 [c1] = some y1 from h1)
    simp only [List.cons.injEq, and_true] at e0 e1
    exact ⟨p, q, by rw [e0, e1]⟩

theorem val_spans (hv : Value.okWide Tryd.prog W .any b0 54 v) (hd : DataW.Trod enc Tryd.prog W base sp held 54 v d ps) : ∃ (A : Option Addr) (m cap : Nat) (p q : Nat → Int), v = .slice A m cap ∧ m ≤ cap ∧ m ≤ 9223372036854775807 ∧ Pairs W A m p q := by
  obtain ⟨A, len, cap, rfl⟩ := okWide_slice Tryd.underlying54 hv
  obtain ⟨fuel, hf⟩ := hd
  rcases Deep.open_slice Tryd.underlying54 hf with ⟨hcs, _⟩ | ⟨a, l, c, m, n, D, Pl, hcs, _, hl, hm, hmm, _, hi⟩
  · simp [Value.cells] at hcs
    obtain ⟨rfl, rfl, rfl⟩ := hcs
    exact ⟨none, 0, 0, fun _ => 0, fun _ => 0, rfl, by omega, by omega, fun h => absurd h (by omega)⟩
  · simp [Value.cells] at hcs
    obtain ⟨rfl, rfl, rfl⟩ := hcs
    have hlm : len ≤ m := by rw [hmm]; split <;> omega
    rw [cells23] at hi
    have key : ∀ i, ∃ p q : Int, i < len → W.cell? (a.add (i * 2)) = some (.int .i64 p) ∧ W.cell? ((a.add (i * 2)).add 1) = some (.int .i64 q) := fun i => by
      by_cases him : i < len
      · obtain ⟨cs, hc, ht⟩ := hi i (by omega)
        obtain ⟨p, q, rfl⟩ := two_nums ht
        obtain ⟨-, -, hat⟩ := World.cells?_some hc
        refine ⟨p, q, fun _ => ⟨?_, hat 1 (by omega)⟩⟩
        have h0 := hat 0 (by omega)
        simpa [Addr.add] using h0
      · exact ⟨0, 0, fun h => absurd h him⟩
    obtain ⟨p, q, all⟩ : ∃ p q : Nat → Int, ∀ i, i < len → W.cell? (a.add (i * 2)) = some (.int .i64 (p i)) ∧ W.cell? ((a.add (i * 2)).add 1) = some (.int .i64 (q i)) :=
      ⟨fun i => (key i).choose, fun i => (key i).choose_spec.choose, fun i => (key i).choose_spec.choose_spec⟩
    clear key
    refine ⟨some a, len, cap, p, q, rfl, hl, by unfold maxLen at hm; omega, fun h0 => ?_⟩
    obtain ⟨b, off, spot⟩ := a
    have hs : spot = none := by simpa [Addr.add] using World.cell?_spot (all 0 h0).1
    subst hs
    refine ⟨b, off, rfl, ?_, fun j hj => ?_⟩
    · have := World.block_lt_of_cell? W _ (all 0 h0).1
      rw [add_plain] at this
      exact this
    · have := all j hj
      rw [add_plain, add_plain] at this
      exact this
end
end Go.Proofs.YtfdojbeckadalaaDoor
