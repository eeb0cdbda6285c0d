/- The contracts of Clear, slices.Clone at places, and Copy. -/
import Derived.Test.YtchipmiklbnedabMGet
import Derived.Maps.AppendAt
import Derived.Laws.IdiomCopy
import Derived.OwnWalk
import Derived.WalkSpells
namespace Go.Proofs.Ytchipmiklbnedab
open Go.RowKit
attribute [local go_sem ↓] Go.wp_at_zero Go.wp_at_succ

/-- Cells written one behind the other. -/
def setAll : List Value → Nat → List Value → List Value
  | xs, _, [] => xs
  | xs, o, v :: r => setAll (xs.set o v) (o + 1) r
theorem setAll_len : ∀ (vs xs : List Value) (o : Nat), (setAll xs o vs).length = xs.length
  | [], _, _ => rfl
  | v :: r, xs, o => by show (setAll (xs.set o v) (o + 1) r).length = _; rw [setAll_len r]; simp
theorem setAll_out : ∀ (vs xs : List Value) (o j : Nat), (j < o ∨ o + vs.length ≤ j) → (setAll xs o vs)[j]? = xs[j]?
  | [], _, _, _, _ => rfl
  | v :: r, xs, o, j, h => by
    show (setAll (xs.set o v) (o + 1) r)[j]? = _
    simp only [List.length_cons] at h
    rw [setAll_out r _ _ _ (by omega), List.getElem?_set_ne (by omega)]
theorem setAll_in : ∀ (vs xs : List Value) (o j : Nat), j < vs.length → o + vs.length ≤ xs.length → (setAll xs o vs)[o + j]? = vs[j]?
  | [], _, _, _, h, _ => absurd h (by simp)
  | v :: r, xs, o, 0, h, hx => by
    show (setAll (xs.set o v) (o + 1) r)[o + 0]? = _
    simp only [List.length_cons] at hx
    rw [setAll_out r _ _ _ (by omega), Nat.add_zero, List.getElem?_set_self (by omega)]
    rfl
  | v :: r, xs, o, j + 1, h, hx => by
    show (setAll (xs.set o v) (o + 1) r)[o + (j + 1)]? = _
    simp only [List.length_cons] at hx h
    rw [show o + (j + 1) = o + 1 + j by omega, setAll_in r _ _ _ (by omega) (by simp; omega)]
    rfl
theorem setAll_whole (vs xs : List Value) (h : vs.length = xs.length) : setAll xs 0 vs = vs := by
  apply List.ext_getElem?
  intro j
  by_cases hj : j < vs.length
  · have := setAll_in vs xs 0 j hj (by omega)
    rwa [Nat.zero_add] at this
  · rw [List.getElem?_eq_none (l := setAll xs 0 vs) (by rw [setAll_len]; omega), List.getElem?_eq_none (by omega)]
theorem stored_all {base : Nat} {e : TypeId} {size n c g : Nat} : ∀ (vs xs : List Value) (o : Nat) (W : World), W.ownsRow base e size (.slice (some ⟨g, 0, none⟩) n c) n xs → (W.setCells g o vs).ownsRow base e size (.slice (some ⟨g, 0, none⟩) n c) n (setAll xs o vs) ∧ W.grownBy (W.setCells g o vs) (some g)
  | [], _, _, W, h => ⟨h, rfl, rfl, rfl, Nat.le_refl _, fun _ _ _ => rfl⟩
  | v :: r, xs, o, W, h => by
    obtain ⟨h1, h2⟩ := stored_all r _ (o + 1) _ (h.stored o v).1
    have h0 := grown_set W ⟨g, o, none⟩ v
    exact ⟨h1, h2.os.trans h0.os, h2.tape.trans h0.tape, h2.output.trans h0.output, Nat.le_trans h0.size h2.size, fun k hk hne => (h2.block k (Nat.lt_of_lt_of_le hk h0.size) hne).trans (h0.block k hk hne)⟩
theorem zero_places (n : Nat) : (Builtin.zeroCells #[.int .i64 0, .int .i64 0, .int .i64 0, .int .i64 0, .bool false] n).toList = placesC noneP n := by
  apply List.ext_getElem?
  intro j
  by_cases hj : j < n * 5
  · have h1 : (placesC noneP n)[j]? = (plC none)[j % 5]? := by
      have := placesC_at noneP (s := j / 5) (i := j % 5) (n := n) (by omega) (by omega)
      rw [show j / 5 * 5 + j % 5 = j by omega] at this
      exact this
    rw [h1]
    unfold Builtin.zeroCells
    have h5 : j % 5 = 0 ∨ j % 5 = 1 ∨ j % 5 = 2 ∨ j % 5 = 3 ∨ j % 5 = 4 := by omega
    rcases h5 with h | h | h | h | h <;> simp [h, hj, plC]
  · rw [List.getElem?_eq_none (l := placesC noneP n) (by rw [placesC_len]; omega), List.getElem?_eq_none (by unfold Builtin.zeroCells; simp; omega)]
theorem none_one (n : Nat) : ∀ v ∈ placesC noneP n, v.oneCell' = true := by
  induction n with
  | zero => intro v h; cases h
  | succ n ih =>
    intro v h
    rcases List.mem_append.1 (show v ∈ placesC noneP n ++ plC none from h) with h | h
    · exact ih v h
    · simp [plC] at h
      rcases h with rfl | rfl <;> rfl
section
variable {W : World} {p g n c : Nat} {T : Nat → Pl}
theorem run_clear_places (h : MemoR W p g n c T) (ty : TypeId) : (Builtin.clear_ #[46] ty #[.slice (some ⟨g, 0, none⟩) n c]).run Try.prog W = .ok (.tuple #[]) (W.setCells g 0 (placesC noneP n)) := by
  have hv : ∀ w, (zeroValue 51).run Try.prog w = .ok (.agg #[.int .i64 0, .int .i64 0, .int .i64 0, .int .i64 0, .bool false]) w := fun _ => by kernel_rfl
  have hl := placesC_len noneP n
  have hcell : ∀ j, j < n * 5 → (W.cell? ⟨g, 0 + j, none⟩).isSome = true := fun j hj => by
    rw [Nat.zero_add, h.row.cellAt j hj]
    exact Option.isSome_iff_exists.2 ⟨_, List.getElem?_eq_getElem (by rw [placesC_len]; exact hj)⟩
  have hst := run_storeCells_cells (P := Try.prog) g 0 (placesC noneP n) 0 W (by rw [hl]; simpa using hcell) (fun j _ => by rw [Nat.zero_add]; exact h.row.frozenAt _) (none_one n)
  simp only [Nat.add_zero] at hst
  obtain ⟨m, rfl⟩ : ∃ m, n = m + 1 := ⟨n - 1, by have := h.room; omega⟩
  simp [Builtin.clear_, run_underlying Try.underlying46, hv, Value.cells, zero_places, hst]
theorem cleared (h : MemoR W p g n c T) : MemoR ((W.setCells g 0 (placesC noneP n)).setCell ⟨p, 1, none⟩ (.int .i64 0)) p g n c noneP ∧ Only (fun i => i = p ∨ i = g) W ((W.setCells g 0 (placesC noneP n)).setCell ⟨p, 1, none⟩ (.int .i64 0)) := by
  obtain ⟨h1, h2⟩ := stored_all (placesC noneP n) _ 0 W h.row
  rw [setAll_whole _ _ (by rw [placesC_len, placesC_len])] at h1
  have hb : Blk (W.setCells g 0 (placesC noneP n)) p 48 _ := h.blk.grown h2 (fun e => h.gp (by injection e with e; exact e.symm))
  refine ⟨⟨?_, h1.kept (grown_set _ ⟨p, 1, none⟩ _) (.inr (own_blk_ne h1 hb (by decide))), h.room⟩, ?_⟩
  · have := hb.set_ 1 (.int .i64 0)
    rw [lenP_none]
    simpa using this
  · exact (Only.of_grown h2 (own := fun i => i = p ∨ i = g) fun r e => .inr (by injection e with e; exact e.symm)).trans (only_cell _ _ _ (own := fun i => i = p ∨ i = g) (.inl rfl)) fun _ h => .inl h
def RetClear (p g n c : Nat) (w : World) (e : Ending) (w' : World) : Prop :=
  (∃ v, e = .returned v) ∧ MemoR w' p g n c noneP ∧ Only (fun i => i = p ∨ i = g) w w'
set_option maxRecDepth 100000 in
theorem clear_any (h : MemoR W p g n c T) : Calls Try.prog 20 #[.pointer (some ⟨p, 0, none⟩)] W (RetClear p g n c W) := by
  have hcl := run_clear_places h
  have HC := Lib.hid (cleared h)
  obtain ⟨h1, h2⟩ := stored_all (placesC noneP n) _ 0 W h.row
  have hb : Blk (W.setCells g 0 (placesC noneP n)) p 48 _ := h.blk.grown h2 (fun e => h.gp (by injection e with e; exact e.symm))
  have c0 := h.c0
  have c1 := hb.cell 1
  have f1 := hb.frozen 1
  obtain ⟨V, hV⟩ : ∃ V, V = W.setCells g 0 (placesC noneP n) := ⟨_, rfl⟩
  rw [← hV] at hcl HC c1 f1
  replace c1 : V.cell? ⟨p, 1, none⟩ = some (.int .i64 (lenP T n : Nat)) := c1
  clear hV h h1 h2 hb
  go_enter Try.func20, Try.ntmps20
  go_wp2_with fail
  go_end0
  exact ⟨⟨_, rfl⟩, HC.out⟩
/-- slices.Clone: the same places, in a row of its own. -/
def RetClone (n : Nat) (T : Nat → Pl) (w : World) (e : Ending) (w' : World) : Prop :=
  ∃ g' c', e = .returned (.slice (some ⟨g', 0, none⟩) n c') ∧ w.heap.size ≤ g' ∧ w'.ownsRow 0 51 5 (.slice (some ⟨g', 0, none⟩) n c') n (placesC T n) ∧ Below w.heap.size w w'
theorem place_one (T : Nat → Pl) : ∀ n, ∀ v ∈ placesC T n, v.oneCell' = true
  | 0, v, h => by cases h
  | n + 1, v, h => by
    rcases List.mem_append.1 (show v ∈ placesC T n ++ plC (T n) from h) with h | h
    · exact place_one T n v h
    · cases ht : T n <;> rw [ht] at h <;> simp [plC] at h <;> rcases h with rfl | rfl | rfl | rfl | rfl <;> rfl
set_option maxRecDepth 100000 in
theorem clone_any (h : MemoR W p g n c T) : Calls Try.prog 21 #[.slice (some ⟨g, 0, none⟩) n c] W (RetClone n T W) := by
  have hinfo : (Try.prog.info? 51).map (fun i => (i.zero, i.size, i.bytes)) = some (some (.agg #[.int .i64 0, .int .i64 0, .int .i64 0, .int .i64 0, .bool false]), 5, 40) := by kernel_rfl
  obtain ⟨i0, hi, hz0, hz1, hz2⟩ := info_parts hinfo
  have hroom := h.room
  have hnil := Lib.run_eql_slice_nil (P := Try.prog) W 46 51 (some ⟨g, 0, none⟩) n c 0 0 Try.underlying46
  have hnews : Hid (∀ j u, (placesC T n)[j]? = some u → (W.alloc (.cells #[] 51)).cell? ((⟨g, 0, none⟩ : Addr).add j) = some u) := Lib.hid fun j u hu => by
    have hb := (Below.refl W.heap.size W).alloc (Nat.le_refl _) (.cells #[] 51)
    rw [Addr.add_lit, Nat.zero_add, hb.cell (p := ⟨g, j, none⟩) h.glt, h.row.cellAt j (by have := (List.getElem?_eq_some_iff.1 hu).1; rwa [placesC_len] at this)]
    exact hu
  have hown := Lib.hid (World.ownsRow_lit (base := W.heap.size) (e := 51) (size := 5) W #[] 0 (Nat.le_refl _) (by unfold maxLen; omega) rfl)
  have hsz : Hid (n ≤ maxLen ∧ n * 40 ≤ 140737488355328 ∧ W.heap.size ≤ (W.alloc (.cells #[] 51)).heap.size) := Lib.hid ⟨by unfold maxLen; omega, by omega, by simp⟩
  have hone := Lib.hid (place_one T n)
  have hlen := Lib.hid (placesC_len T n)
  clear h hinfo
  go_enter Try.func21, Try.ntmps21
  go_wp2_with (at_builtin; refine wpList_append_own _ rfl _ _ 46 rfl W.heap.size 51 i0 (.agg #[.int .i64 0, .int .i64 0, .int .i64 0, .int .i64 0, .bool false]) 5 40 Try.underlying46 hi hz0 hz1 hz2 rfl (by decide) _ _ _ rfl hown.out ⟨g, 0, none⟩ n c (placesC T n) rfl hlen.out hnews.out hone.out (by have := hsz.out.1; omega) (by have := hsz.out.2.1; omega) hsz.out.2.2 ?_; intro v' w' hown' hgrow _; have HO := Lib.hid hown'; have HG := Lib.hid hgrow; clear hown' hgrow)
  go_ret
  have hb := (Below.refl W.heap.size W).alloc (Nat.le_refl _) (.cells #[] 51)
  have hO := HO.out
  rw [Nat.zero_add, List.nil_append] at hO
  obtain ⟨g', c', hv⟩ : ∃ g' c', v' = .slice (some ⟨g', 0, none⟩) n c' := by
    rcases hO.2 with ⟨_, h0⟩ | ⟨g', cap, cur, rfl, _⟩
    · omega
    · exact ⟨g', _, rfl⟩
  subst hv
  refine ⟨g', c', rfl, (hO.lt g' rfl).1, ?_, ?_⟩
  · refine ⟨hO.1, ?_⟩
    rcases hO.2 with h | ⟨k, cap, cur, h1, _, h3⟩
    · exact .inl h
    · exact .inr ⟨k, cap, cur, h1, Nat.zero_le _, h3⟩
  · exact hb.grown HG.out hsz.out.2.2 (fun k hk => Nat.le_of_eq (Option.some.inj (show some W.heap.size = some k from hk)))
theorem keep_two {w w1 : World} {p : Nat} {x y : Option Value} (hb : Below w.heap.size w w1) (h : p < w.heap.size ∧ w.cell? ⟨p, 0, none⟩ = x ∧ w.cell? ⟨p, 1, none⟩ = y) : p < w1.heap.size ∧ w1.cell? ⟨p, 0, none⟩ = x ∧ w1.cell? ⟨p, 1, none⟩ = y :=
  ⟨Nat.lt_of_lt_of_le h.1 hb.size, (hb.cell (p := ⟨p, 0, none⟩) h.1).trans h.2.1, (hb.cell (p := ⟨p, 1, none⟩) h.1).trans h.2.2⟩
theorem keep_two_new {w : World} {p : Nat} {x y : Option Value} (o : Obj) (h : p < w.heap.size ∧ w.cell? ⟨p, 0, none⟩ = x ∧ w.cell? ⟨p, 1, none⟩ = y) : p < (w.alloc o).heap.size ∧ (w.alloc o).cell? ⟨p, 0, none⟩ = x ∧ (w.alloc o).cell? ⟨p, 1, none⟩ = y :=
  keep_two ((Below.refl _ _).alloc (Nat.le_refl _) o) h
/-- Copy: a memo of its own, just so. -/
def RetCopy (n : Nat) (T : Nat → Pl) (w : World) (e : Ending) (w' : World) : Prop :=
  ∃ p' g' c', e = .returned (.pointer (some ⟨p', 0, none⟩)) ∧ w.heap.size ≤ p' ∧ w.heap.size ≤ g' ∧ MemoR w' p' g' n c' T ∧ Below w.heap.size w w'
theorem copy_memo {w1 : World} {g' c' k : Nat} (hn : 0 < n ∧ n ≤ 65536) (h : w1.ownsRow 0 51 5 (.slice (some ⟨g', 0, none⟩) n c') n (placesC T n)) (hk : lenP T n = k) :
    MemoR (w1.alloc (.cells #[.slice (some ⟨g', 0, none⟩) n c', .int .i64 k] 48)) w1.heap.size g' n c' T := by
  have hb := (Below.refl w1.heap.size w1).alloc (Nat.le_refl _) (.cells #[.slice (some ⟨g', 0, none⟩) n c', .int .i64 k] 48)
  exact ⟨by rw [hk]; exact Blk.new _ _ _, own_below h hb, hn⟩
set_option maxRecDepth 100000 in
set_option maxHeartbeats 800000 in
theorem copy_any (h : MemoR W p g n c T) : Calls Try.prog 19 #[.pointer (some ⟨p, 0, none⟩)] W (RetCopy n T W) := by
  obtain ⟨k, hk⟩ : ∃ k : Nat, lenP T n = k := ⟨_, rfl⟩
  have c1 := h.c1
  rw [hk] at c1
  have HK := Lib.hid hk
  have HR := Lib.hid h.room
  have hb0 := (Below.refl W.heap.size W).drew
  have HC := Lib.hid (clone_any (h.below hb0))
  have K0 : Hid (p < W.drew.heap.size ∧ W.drew.cell? ⟨p, 0, none⟩ = some (.slice (some ⟨g, 0, none⟩) n c) ∧ W.drew.cell? ⟨p, 1, none⟩ = some (.int .i64 (k : Nat))) := Lib.hid ⟨h.blk.lt, h.c0, c1⟩
  clear h hk c1 hb0
  go_enter Try.func19, Try.ntmps19
  go_wp2_with fail
  go_region_held3 (fun w' => p < w'.heap.size ∧ w'.cell? ⟨p, 0, none⟩ = some (.slice (some ⟨g, 0, none⟩) n c) ∧ w'.cell? ⟨p, 1, none⟩ = some (.int .i64 (k : Nat)))
    (first | (with_reducible exact K0.out) | (with_reducible exact keep_two hb1 K0.out) | (with_reducible exact keep_two_new _ (keep_two hb1 K0.out)))
    (first
      | (go_at_call 21; ((with_reducible refine HC.out.mono ?_); rintro e w1 ⟨g', c', rfl, hg', ho', hb1⟩); have HO := Lib.hid ho'; have HGe := Lib.hid hg'; clear ho' hg'))
  have HB := Lib.hid hb1
  clear hb1
  go_wp2_with fail
  go_ret
  have hbw : Below W.heap.size W w1 := (Below.refl W.heap.size W).drew.trans HB.out
  exact ⟨_, g', c', rfl, hbw.size, HGe.out, copy_memo HR.out HO.out HK.out, hbw.alloc hbw.size _⟩
end
end Go.Proofs.Ytchipmiklbnedab
