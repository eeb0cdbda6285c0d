/- The leaf layer: what an argument that is a script holds; that is two numbers. -/
import Derived.Test.YtlkbapcienjdcaaDoorZRowArg
import Derived.Test.YtlkbapcienjdcaaDoorLMapT
import Derived.Test.YtlkbapcienjdcaaDoorLOut
namespace Go.Proofs.YtlkbapcienjdcaaDoor
open Go.ChangeShapes Go.WideShapes Go.ChangeAt Go.RowKit Go.Joins

/-- A call of a script. -/
structure Opr where
  kd : Int
  a : Int
  b : Int
  N : Int
  Az : Option Addr
  mz : Nat
  cz : Nat
  fz : Nat → Int
  As : Option Addr
  ms : Nat
  cs : Nat
  fs : Nat → Int
def Opr.cells (o : Opr) : List Value := [.int .i64 o.kd, .int .i64 o.a, .int .i64 o.b, .int .i64 o.N, .slice o.Az o.mz o.cz, .slice o.As o.ms o.cs]
/-- What its rows hold. -/
structure OpIn (w : World) (o : Opr) : Prop where
  mc : o.mz ≤ o.cz
  mm : o.mz ≤ 9223372036854775807
  z : ZInts w o.Az o.mz o.fz
  sm : o.ms ≤ 9223372036854775807
  s : Sp.Ints w o.As o.ms o.fs
theorem OpIn.below {w w' : World} {o : Opr} (h : OpIn w o) (hb : Below w.heap.size w w') : OpIn w' o :=
  ⟨h.mc, h.mm, fun h0 => by obtain ⟨b, off, e, hl, hc⟩ := h.z h0; exact ⟨b, off, e, Nat.lt_of_lt_of_le hl hb.size, fun j hj => (hb.cell (p := ⟨b, off + j, none⟩) hl).trans (hc j hj)⟩, h.sm, h.s.below hb⟩
/-- A script. -/
def OpRow (w : World) (A : Option Addr) (k : Nat) (f : Nat → Opr) : Prop :=
  0 < k → ∃ b off, A = some ⟨b, off, none⟩ ∧ b < w.heap.size ∧ ∀ i, i < k → OpIn w (f i) ∧ ∀ j u, (f i).cells[j]? = some u → w.cell? ⟨b, off + i * 6 + j, none⟩ = some u
theorem OpRow.below {w w' : World} {A : Option Addr} {k : Nat} {f : Nat → Opr} (h : OpRow w A k f) (hb : Below w.heap.size w w') : OpRow w' A k f := fun h0 => by
  obtain ⟨b, off, e, hl, hc⟩ := h h0
  exact ⟨b, off, e, Nat.lt_of_lt_of_le hl hb.size, fun i hi => ⟨(hc i hi).1.below hb, fun j u hj => (hb.cell (p := ⟨b, off + i * 6 + j, none⟩) hl).trans ((hc i hi).2 j u hj)⟩⟩
theorem cells_opr : Tryd.prog.cellsOf 33 = 6 := by kernel_rfl
section
variable {H : Type} {enc : TypeId × Value → H} {W : World} {b0 base : Nat} {sp : Nat → Bool} {held : Bool} {v : Value} {d : DataW H} {ps : List MemPlace}
set_option maxRecDepth 100000 in
theorem ints_parts {n : Nat} {c1 : Value} {y1 : DataW H × List MemPlace} (h1 : DataW.trod enc Tryd.prog W base sp held n 29 [c1] = some y1) :
    ∃ (A : Option Addr) (m cap : Nat) (f : Nat → Int), c1 = .slice A m cap ∧ m ≤ cap ∧ m ≤ 9223372036854775807 ∧ ZInts W A m f := by
  rcases open_ints Tryd.underlying29 Tryd.underlying3 cells_int h1 with ⟨hcs, _⟩ | ⟨a, l, c, zs, hcs, _, hl, hm, hz, _, hcell, hwz⟩
  · simp only [List.cons.injEq, and_true] at hcs
    subst hcs
    exact ⟨none, 0, 0, fun _ => 0, rfl, by omega, by omega, fun h => absurd h (by omega)⟩
  · simp only [List.cons.injEq, and_true] at hcs
    subst hcs
    have hzl : l ≤ zs.length := by rw [hz]; split <;> omega
    refine ⟨some a, l, c, fun j => zs.getD j 0, rfl, hl, by unfold maxLen at hm; omega, fun h0 => ?_⟩
    obtain ⟨b, off, rfl, hc⟩ := ints_at hcell (by omega)
    exact ⟨b, off, rfl, World.block_lt_of_cell? W _ (hc 0 (by omega)), fun j hj => hc j (by omega)⟩
set_option maxRecDepth 100000 in
theorem opr_parts {n : Nat} {cs : List Value} {x : DataW H × List MemPlace} (h : DataW.trod enc Tryd.prog W base sp held n 33 cs = some x) : ∃ o : Opr, cs = o.cells ∧ OpIn W o := by
  obtain ⟨xs, m, -, hx, hl, hlen, hel⟩ := DataW.trod_struct Tryd.underlying33 h
  rw [cells_opr] at hl
  match cs, hl, xs, hlen, hx with
  | [c0, c1, c2, c3, c4, c5], _, [y0, y1, y2, y3, y4], _, hx =>
    have e0 : DataW.trod enc Tryd.prog W base sp held m 3 (([c0, c1, c2, c3, c4, c5].drop 0).take (Tryd.prog.cellsOf 3)) = some y0 := hel 0 _ rfl
    have e1 : DataW.trod enc Tryd.prog W base sp held m 3 (([c0, c1, c2, c3, c4, c5].drop 1).take (Tryd.prog.cellsOf 3)) = some y1 := hel 1 _ rfl
    have e2 : DataW.trod enc Tryd.prog W base sp held m 3 (([c0, c1, c2, c3, c4, c5].drop 2).take (Tryd.prog.cellsOf 3)) = some y2 := hel 2 _ rfl
    have e3 : DataW.trod enc Tryd.prog W base sp held m 31 (([c0, c1, c2, c3, c4, c5].drop 3).take (Tryd.prog.cellsOf 31)) = some y3 := hel 3 _ rfl
    have e4 : DataW.trod enc Tryd.prog W base sp held m 29 (([c0, c1, c2, c3, c4, c5].drop 5).take (Tryd.prog.cellsOf 29)) = some y4 := hel 4 _ rfl
    rw [cells_int] at e0 e1 e2
    rw [cells_zone] at e3
    rw [cells_row] at e4
    obtain ⟨k, hk, -, -⟩ := DataW.trod_int Tryd.underlying3 (show DataW.trod enc Tryd.prog W base sp held m 3 [c0] = some y0 from e0)
    obtain ⟨a, ha, -, -⟩ := DataW.trod_int Tryd.underlying3 (show DataW.trod enc Tryd.prog W base sp held m 3 [c1] = some y1 from e1)
    obtain ⟨b, hb, -, -⟩ := DataW.trod_int Tryd.underlying3 (show DataW.trod enc Tryd.prog W base sp held m 3 [c2] = some y2 from e2)
    obtain ⟨N, Az, mz, cz, fz, hz, q1, q2, q3⟩ := zone_parts (show DataW.trod enc Tryd.prog W base sp held m 31 [c3, c4] = some y3 from e3)
    obtain ⟨As, ms, cs', fs, hs, p1, p2, p3⟩ := ints_parts (show DataW.trod enc Tryd.prog W base sp held m 29 [c5] = some y4 from e4)
    simp only [List.cons.injEq, and_true] at hk ha hb hz
    exact ⟨⟨k, a, b, N, Az, mz, cz, fz, As, ms, cs', fs⟩, by rw [hk, ha, hb, hz.1, hz.2, hs]; rfl, q1, q2, q3, p2, p3⟩
set_option maxRecDepth 100000 in
theorem val_ops (hv : Value.okWide Tryd.prog W .any b0 22 v) (hd : DataW.Trod enc Tryd.prog W base sp held 22 v d ps) :
    ∃ (A : Option Addr) (m cap : Nat) (f : Nat → Opr), v = .slice A m cap ∧ m ≤ cap ∧ m ≤ 9223372036854775807 ∧ OpRow W A m f := by
  obtain ⟨A, len, cap, rfl⟩ := okWide_slice Tryd.underlying22 hv
  obtain ⟨fuel, hf⟩ := hd
  rcases Deep.open_slice Tryd.underlying22 hf with ⟨hcs, _⟩ | ⟨a, l, c, m, n, D, Pl, hcs, _, hl, hm, hmm, _, hi⟩
  · simp [Value.cells] at hcs
    obtain ⟨rfl, rfl, rfl⟩ := hcs
    exact ⟨none, 0, 0, fun _ => ⟨0, 0, 0, 0, none, 0, 0, fun _ => 0, none, 0, 0, fun _ => 0⟩, rfl, by omega, by omega, fun h => absurd h (by omega)⟩
  · simp [Value.cells] at hcs
    obtain ⟨rfl, rfl, rfl⟩ := hcs
    have hlm : len ≤ m := by rw [hmm]; split <;> omega
    rw [cells_opr] at hi
    have key : ∀ i, ∃ o : Opr, i < len → OpIn W o ∧ ∀ j u, o.cells[j]? = some u → W.cell? ((a.add (i * 6)).add j) = some u := fun i => by
      by_cases him : i < len
      · obtain ⟨cs, hc, ht⟩ := hi i (by omega)
        obtain ⟨o, rfl, ho⟩ := opr_parts ht
        obtain ⟨-, -, hat⟩ := World.cells?_some hc
        refine ⟨o, fun _ => ⟨ho, fun j u hj => ?_⟩⟩
        obtain ⟨hj1, hj2⟩ := List.getElem?_eq_some_iff.1 hj
        have := hat j (by exact hj1)
        rw [this]
        exact hj
      · exact ⟨⟨0, 0, 0, 0, none, 0, 0, fun _ => 0, none, 0, 0, fun _ => 0⟩, fun h => absurd h him⟩
    obtain ⟨f, all⟩ : ∃ f : Nat → Opr, ∀ i, i < len → OpIn W (f i) ∧ ∀ j u, (f i).cells[j]? = some u → W.cell? ((a.add (i * 6)).add j) = some u := ⟨fun i => (key i).choose, fun i => (key i).choose_spec⟩
    clear key
    refine ⟨some a, len, cap, f, rfl, hl, by unfold maxLen at hm; omega, fun h0 => ?_⟩
    obtain ⟨b, off, spot⟩ := a
    have c0 := (all 0 h0).2 0 _ rfl
    have hs : spot = none := by simpa [Addr.add] using World.cell?_spot c0
    subst hs
    refine ⟨b, off, rfl, World.block_lt_of_cell? W _ c0, fun i hi => ⟨(all i hi).1, fun j u hj => ?_⟩⟩
    have := (all i hi).2 j u hj
    rw [plain_add, plain_add] at this
    exact this
theorem cells_two : Tryd.prog.cellsOf 45 = 2 := by kernel_rfl
set_option maxRecDepth 100000 in
theorem val_two (hv : Value.okWide Tryd.prog W .any b0 45 v) (hd : DataW.Trod enc Tryd.prog W base sp held 45 v d ps) : ∃ x y : Int, v = .agg #[.int .i64 x, .int .i64 y] := by
  simp only [Value.okWide, Tryd.underlying45] at hv
  obtain ⟨cs, rfl, hsz, _⟩ := hv
  obtain ⟨l⟩ := cs
  match l, hsz.trans cells_two with
  | [c0, c1], _ =>
    obtain ⟨fuel, hf⟩ := hd
    obtain ⟨xs, m, _, -, _, hlen, hel⟩ := DataW.trod_array Tryd.underlying45 hf
    match xs, hlen with
    | [y0, y1], _ =>
      have e0 := hel 0 (by decide)
      have e1 := hel 1 (by decide)
      rw [cells_int] at e0 e1
      obtain ⟨x, hx, -, -⟩ := DataW.trod_int Tryd.underlying3 (show DataW.trod enc Tryd.prog W base sp held m 3 [c0] = some y0 from e0)
      obtain ⟨y, hy, -, -⟩ := DataW.trod_int Tryd.underlying3 (show DataW.trod enc Tryd.prog W base sp held m 3 [c1] = some y1 from e1)
      simp only [List.cons.injEq, and_true] at hx hy
      exact ⟨x, y, by rw [hx, hy]⟩
end
end Go.Proofs.YtlkbapcienjdcaaDoor
