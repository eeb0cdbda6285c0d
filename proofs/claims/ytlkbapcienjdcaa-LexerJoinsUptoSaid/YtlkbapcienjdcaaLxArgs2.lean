/- What an argument holds that is a token; that is a row of tokens. -/
import Derived.Test.YtlkbapcienjdcaaLxArgs
import Derived.Test.YtlkbapcienjdcaaLxJoinsWalk
import Derived.JoinedCond
namespace Go.Proofs.Ytlkbapcienjdcaa
open Go.ChangeShapes Go.WideShapes Go.ChangeAt Go.RowKit Go.Joins Go.ChangeMaps
theorem bulk_part {H : Type} {d : DataW H} {l : List (DataW H)} (h : d ∈ l) : Rows.uptoBulk d ≤ Rows.uptoBulkAll l := by
  induction l with
  | nil => cases h
  | cons x r ih =>
    simp only [Rows.uptoBulkAll]
    cases List.mem_cons.1 h with
    | inl e => subst e; omega
    | inr e => have := ih e; omega
theorem bulk_one {H : Type} (d : DataW H) : 1 ≤ Rows.uptoBulk d := by
  cases d with
  | lit l => cases l <;> simp [Rows.uptoBulk]
  | nil => simp [Rows.uptoBulk]
  | ptr d => simp [Rows.uptoBulk]
  | slice elems spare => simp [Rows.uptoBulk]
  | agg parts => simp [Rows.uptoBulk]
  | iface t d => simp [Rows.uptoBulk]
  | map entries => simp [Rows.uptoBulk]
  | held h => simp [Rows.uptoBulk]
theorem bulk_len {H : Type} (l : List (DataW H)) : l.length ≤ Rows.uptoBulkAll l := by
  induction l with
  | nil => simp [Rows.uptoBulkAll]
  | cons x r ih => have := bulk_one x; simp only [Rows.uptoBulkAll, List.length_cons]; omega
section
variable {H : Type} {enc : TypeId × Value → H} {W : World} {b0 base : Nat} {sp : Nat → Bool} {held : Bool} {v : Value} {d : DataW H} {ps : List MemPlace}
set_option maxRecDepth 100000 in
theorem tok_parts {n : Nat} {cs : List Value} {x : DataW H × List MemPlace} (h : DataW.trod enc Try.prog W base sp held n 31 cs = some x) : ∃ (k : Int) (s : ByteArray) (m a : Int), cs = [.int .i64 k, .string s, .int .i64 m, .int .i64 a] ∧ s.size ≤ Rows.uptoBulk x.1 := by
  obtain ⟨xs, m, -, hx, hl, hlen, hel⟩ := DataW.trod_struct Try.underlying31 h
  rw [cellsTok] at hl
  match cs, hl, xs, hlen, hx with
  | [c0, c1, c2, c3], _, [y0, y1, y2, y3], _, hx =>
    have e0 : DataW.trod enc Try.prog W base sp held m 3 (([c0, c1, c2, c3].drop 0).take (Try.prog.cellsOf 3)) = some y0 := hel 0 _ rfl
    have e1 : DataW.trod enc Try.prog W base sp held m 9 (([c0, c1, c2, c3].drop 1).take (Try.prog.cellsOf 9)) = some y1 := hel 1 _ rfl
    have e2 : DataW.trod enc Try.prog W base sp held m 3 (([c0, c1, c2, c3].drop 2).take (Try.prog.cellsOf 3)) = some y2 := hel 2 _ rfl
    have e3 : DataW.trod enc Try.prog W base sp held m 3 (([c0, c1, c2, c3].drop 3).take (Try.prog.cellsOf 3)) = some y3 := hel 3 _ rfl
    rw [cellsInt] at e0 e2 e3
    rw [cellsStr] at e1
    obtain ⟨k, hk, -, -⟩ := DataW.trod_int Try.underlying3 (show DataW.trod enc Try.prog W base sp held m 3 [c0] = some y0 from e0)
    obtain ⟨s, hs, hy, -⟩ := DataW.trod_string Try.underlying9 (show DataW.trod enc Try.prog W base sp held m 9 [c1] = some y1 from e1)
    obtain ⟨p, hp, -, -⟩ := DataW.trod_int Try.underlying3 (show DataW.trod enc Try.prog W base sp held m 3 [c2] = some y2 from e2)
    obtain ⟨a, ha, -, -⟩ := DataW.trod_int Try.underlying3 (show DataW.trod enc Try.prog W base sp held m 3 [c3] = some y3 from e3)
    simp only [List.cons.injEq, and_true] at hk hs hp ha
    refine ⟨k, s, p, a, by rw [hk, hs, hp, ha], ?_⟩
    rw [hx]
    have h1 : Rows.uptoBulk y1.1 ≤ Rows.uptoBulkAll ([y0, y1, y2, y3].map (·.1)) := bulk_part (by simp)
    have h2 : Rows.uptoBulk y1.1 = s.data.toList.length + 1 := by rw [hy]; simp [Rows.uptoBulk]
    rw [h2, list_size] at h1
    show s.size ≤ Rows.uptoBulk (DataW.agg _)
    simp only [Rows.uptoBulk]
    omega
set_option maxRecDepth 100000 in
theorem val_tok (hv : Value.okWide Try.prog W .any b0 31 v) (hd : DataW.Trod enc Try.prog W base sp held 31 v d ps) : ∃ (k : Int) (s : ByteArray) (m a : Int), v = tokV k s m a := by
  obtain ⟨cs, rfl, hsz⟩ := okWide_struct Try.underlying31 hv
  obtain ⟨fuel, hf⟩ := hd
  obtain ⟨k, s, m, a, e, -⟩ := tok_parts hf
  refine ⟨k, s, m, a, ?_⟩
  have e' : cs.toList = [.int .i64 k, .string s, .int .i64 m, .int .i64 a] := e
  have : cs = #[.int .i64 k, .string s, .int .i64 m, .int .i64 a] := by
    obtain ⟨l⟩ := cs
    exact congrArg Array.mk e'
  rw [this]
theorem plain_add (b off k : Nat) : (⟨b, off, none⟩ : Addr).add k = ⟨b, off + k, none⟩ := by simp [Addr.add]
set_option maxRecDepth 100000 in
theorem val_toks (hv : Value.okWide Try.prog W .any b0 27 v) (hd : DataW.Trod enc Try.prog W base sp held 27 v d ps) :
    ∃ (A : Option Addr) (cap : Nat) (xs : List Tk), v = .slice A xs.length cap ∧ xs.length ≤ cap ∧ (0 < xs.length → ∃ b off, A = some ⟨b, off, none⟩ ∧ b < W.heap.size ∧ ∀ i x, xs[i]? = some x → W.cell? ⟨b, off + i * 4, none⟩ = some (.int .i64 x.k) ∧ W.cell? ⟨b, off + i * 4 + 1, none⟩ = some (.string x.s) ∧ W.cell? ⟨b, off + i * 4 + 2, none⟩ = some (.int .i64 x.n) ∧ W.cell? ⟨b, off + i * 4 + 3, none⟩ = some (.int .i64 x.a)) ∧ xs.length ≤ Rows.uptoBulk d ∧ ∀ x ∈ xs, x.s.size ≤ Rows.uptoBulk d := by
  obtain ⟨A, len, cap, rfl⟩ := okWide_slice Try.underlying27 hv
  obtain ⟨fuel, hf⟩ := hd
  rcases Deep.open_slice Try.underlying27 hf with ⟨hcs, _⟩ | ⟨a, l, c, m, n, D, Pl, hcs, _, hl, hm, hmm, hxd, hi⟩
  · simp [Value.cells] at hcs
    obtain ⟨rfl, rfl, rfl⟩ := hcs
    exact ⟨none, 0, [], rfl, Nat.le_refl _, fun h => absurd h (by simp), Nat.zero_le _, fun x h => by simp at h⟩
  · simp [Value.cells] at hcs
    obtain ⟨rfl, rfl, rfl⟩ := hcs
    have hlm : len ≤ m := by rw [hmm]; split <;> omega
    rw [cellsTok] at hi
    have key : ∀ i, ∃ x : Tk, i < len → W.cell? (a.add (i * 4)) = some (.int .i64 x.k) ∧ W.cell? ((a.add (i * 4)).add 1) = some (.string x.s) ∧ W.cell? ((a.add (i * 4)).add 2) = some (.int .i64 x.n) ∧ W.cell? ((a.add (i * 4)).add 3) = some (.int .i64 x.a) ∧ x.s.size ≤ Rows.uptoBulk (D i) := fun i => by
      by_cases him : i < len
      · obtain ⟨cs, hc, ht⟩ := hi i (by omega)
        obtain ⟨k, s, p, q, rfl, hs⟩ := tok_parts ht
        obtain ⟨-, -, hat⟩ := World.cells?_some hc
        refine ⟨⟨k, s, p, q⟩, fun _ => ⟨?_, hat 1 (by omega), hat 2 (by omega), hat 3 (by omega), hs⟩⟩
        have h0 := hat 0 (by omega)
        simpa [Addr.add] using h0
      · exact ⟨⟨0, ⟨#[]⟩, 0, 0⟩, fun h => absurd h him⟩
    obtain ⟨f, all⟩ : ∃ f : Nat → Tk, ∀ i, i < len → W.cell? (a.add (i * 4)) = some (.int .i64 (f i).k) ∧ W.cell? ((a.add (i * 4)).add 1) = some (.string (f i).s) ∧ W.cell? ((a.add (i * 4)).add 2) = some (.int .i64 (f i).n) ∧ W.cell? ((a.add (i * 4)).add 3) = some (.int .i64 (f i).a) ∧ (f i).s.size ≤ Rows.uptoBulk (D i) := ⟨fun i => (key i).choose, fun i => (key i).choose_spec⟩
    clear key
    simp only [Prod.mk.injEq] at hxd
    have hd : d = .slice ((List.range len).map D) ((List.range (m - len)).map fun j => D (len + j)) := hxd.1
    have hlen : ((List.range len).map f).length = len := by simp
    have hB1 : len ≤ Rows.uptoBulk d := by
      rw [hd]
      have := bulk_len ((List.range len).map D)
      simp only [Rows.uptoBulk, List.length_map, List.length_range] at this ⊢
      omega
    refine ⟨some a, cap, (List.range len).map f, by rw [hlen], by rw [hlen]; exact hl, fun h0 => ?_, by rw [hlen]; exact hB1, fun x hx => ?_⟩
    · rw [hlen] at h0
      obtain ⟨b, off, spot⟩ := a
      have hs : spot = none := by simpa [Addr.add] using World.cell?_spot (all 0 h0).1
      subst hs
      refine ⟨b, off, rfl, World.block_lt_of_cell? W _ (all 0 h0).1, fun j x hj => ?_⟩
      obtain ⟨h1, h2⟩ := List.getElem?_eq_some_iff.1 hj
      rw [hlen] at h1
      have h3 : f j = x := by simpa using h2
      have := all j h1
      rw [h3, plain_add, plain_add, plain_add, plain_add] at this
      exact ⟨this.1, this.2.1, this.2.2.1, this.2.2.2.1⟩
    · obtain ⟨i, hi2, rfl⟩ := List.mem_map.1 hx
      rw [List.mem_range] at hi2
      have h1 := (all i hi2).2.2.2.2
      have h2 : Rows.uptoBulk (D i) ≤ Rows.uptoBulkAll ((List.range len).map D) := bulk_part (List.mem_map.2 ⟨i, List.mem_range.2 hi2, rfl⟩)
      rw [hd]
      simp only [Rows.uptoBulk]
      omega
end
end Go.Proofs.Ytlkbapcienjdcaa
