/- The lexer layer: Join of tokens as they come in. -/
import Derived.Test.YtlkbapcienjdcaaLxMathJ
namespace Go.Proofs.Ytlkbapcienjdcaa
open Go.RowKit
/-- The cells of a row of tokens as they come in. -/
def gcells (ts : List Tk) : List Value := ts.flatMap fun t => [.int .i64 t.k, .string t.s, .int .i64 t.n, .int .i64 t.a]
theorem gcells_len (ts : List Tk) : (gcells ts).length = ts.length * 4 := by
  induction ts with
  | nil => rfl
  | cons t ts ih =>
    have : gcells (t :: ts) = [.int .i64 t.k, .string t.s, .int .i64 t.n, .int .i64 t.a] ++ gcells ts := rfl
    rw [this, List.length_append, ih, List.length_cons]
    simp; omega
theorem gcells_snoc (ts : List Tk) (t : Tk) : gcells (ts ++ [t]) = gcells ts ++ [.int .i64 t.k, .string t.s, .int .i64 t.n, .int .i64 t.a] := by simp [gcells]
theorem gcells_at {ts : List Tk} {i : Nat} {t : Tk} (h : ts[i]? = some t) : (gcells ts)[i * 4]? = some (.int .i64 t.k) ∧ (gcells ts)[i * 4 + 1]? = some (.string t.s) ∧ (gcells ts)[i * 4 + 2]? = some (.int .i64 t.n) ∧ (gcells ts)[i * 4 + 3]? = some (.int .i64 t.a) := by
  induction ts generalizing i with
  | nil => simp at h
  | cons y ts ih =>
    have e : gcells (y :: ts) = .int .i64 y.k :: .string y.s :: .int .i64 y.n :: .int .i64 y.a :: gcells ts := rfl
    rw [e]
    cases i with
    | zero => simp at h; subst h; exact ⟨rfl, rfl, rfl, rfl⟩
    | succ i =>
      rw [show (i + 1) * 4 = i * 4 + 1 + 1 + 1 + 1 by omega]
      simp only [List.getElem?_cons_succ] at h ⊢
      exact ih h
theorem grow_at {w : World} {base : Nat} {t : TypeId} {v : Value} {ts : List Tk} (h : w.ownsRow base t 4 v ts.length (gcells ts)) (h0 : 0 < ts.length) : ∃ g c, v = .slice (some ⟨g, 0, none⟩) ts.length c ∧ ts.length ≤ c ∧ ∀ (i : Nat) (x : Tk), ts[i]? = some x → w.cell? ⟨g, i * 4, none⟩ = some (.int .i64 x.k) ∧ w.cell? ⟨g, i * 4 + 1, none⟩ = some (.string x.s) ∧ w.cell? ⟨g, i * 4 + 2, none⟩ = some (.int .i64 x.n) ∧ w.cell? ⟨g, i * 4 + 3, none⟩ = some (.int .i64 x.a) := by
  have h' := h
  rcases h.2 with ⟨-, e⟩ | ⟨g, cap, cur, rfl, -, -, hc, -⟩
  · omega
  · refine ⟨g, cap, rfl, hc, fun i x hx => ?_⟩
    have hi := (List.getElem?_eq_some_iff.1 hx).1
    obtain ⟨c0, c1, c2, c3⟩ := gcells_at hx
    have hl := gcells_len ts
    exact ⟨(h'.cellAt (i * 4) (by omega)).trans c0, (h'.cellAt (i * 4 + 1) (by omega)).trans c1, (h'.cellAt (i * 4 + 2) (by omega)).trans c2, (h'.cellAt (i * 4 + 3) (by omega)).trans c3⟩
theorem grow_len {w : World} {base : Nat} {t : TypeId} {v : Value} {ts : List Tk} (h : w.ownsRow base t 4 v ts.length (gcells ts)) : ∃ A c, v = .slice A ts.length c := by
  rcases h.2 with ⟨rfl, e⟩ | ⟨g, cap, cur, rfl, -⟩
  · exact ⟨none, 0, by rw [e]⟩
  · exact ⟨_, _, rfl⟩
/-- The gtexts of the first tokens, and the room behind them. -/
def gtexts (ts : List Tk) (i : Nat) : List Value := (ts.take i).map (fun t => Value.string t.s) ++ List.replicate (ts.length - i) (.string ⟨#[]⟩)
theorem gtexts_len (ts : List Tk) {i : Nat} (h : i ≤ ts.length) : (gtexts ts i).length = ts.length := by
  unfold gtexts
  rw [List.length_append, List.length_map, List.length_take, List.length_replicate]
  omega
theorem gtexts_set {ts : List Tk} {i : Nat} {t : Tk} (h : ts[i]? = some t) : (gtexts ts i).set i (.string t.s) = gtexts ts (i + 1) := by
  obtain ⟨hi, ht⟩ := List.getElem?_eq_some_iff.1 h
  unfold gtexts
  obtain ⟨q, hq⟩ : ∃ q, ts.length - i = q + 1 := ⟨ts.length - i - 1, by omega⟩
  rw [hq, show ts.length - (i + 1) = q by omega, List.replicate_succ, List.take_succ_eq_append_getElem hi, ht]
  rw [List.set_append_right _ _ (by simp; omega)]
  simp only [List.length_map, List.length_take, List.map_append, List.append_assoc]
  rw [show i - min i ts.length = 0 by omega]
  rfl
theorem gtexts_at {ts : List Tk} {i : Nat} (h : i < ts.length) : (gtexts ts i)[i]? = some (Value.string ⟨#[]⟩) := by
  unfold gtexts
  rw [List.getElem?_append_right (by simp; omega)]
  simp only [List.length_map, List.length_take]
  rw [show i - min i ts.length = 0 by omega, show ts.length - i = ts.length - i - 1 + 1 by omega, List.replicate_succ]
  rfl
theorem gtexts_all {ts : List Tk} (j : Nat) (x : ByteArray) (h : (ts.map fun t => t.s)[j]? = some x) : (gtexts ts ts.length)[j]? = some (.string x) := by
  unfold gtexts
  rw [List.take_length, Nat.sub_self, List.replicate_zero, List.append_nil]
  rw [List.getElem?_map] at h ⊢
  cases q : ts[j]? with
  | none => rw [q] at h; simp at h
  | some t => rw [q] at h; simp at h; simp [h]
section
variable {W : World}
set_option maxRecDepth 100000 in
set_option maxHeartbeats 3200000 in
theorem gjoin_any (ts : List Tk) (base : Nat) (v : Value) (W : World) (hn : ts.length ≤ 1048576) (hJ : (Lib.join (ts.map (·.s.data.toList)) [32]).length ≤ 140737488355328) (h : W.ownsRow base 32 4 v ts.length (gcells ts)) : Calls Try.prog 12 #[v] W (fun e w' => e = .returned (.string ⟨(Lib.join (ts.map (·.s.data.toList)) [32]).toArray⟩) ∧ Below W.heap.size W w') := by
  obtain ⟨i0, hi, hz0, hz1, hz2⟩ := info_parts sinfo
  have HI := Lib.hid (And.intro hi (And.intro hz0 (And.intro hz1 hz2)))
  have hmap : (ts.map fun t => t.s).map (·.data.toList) = ts.map (·.s.data.toList) := by
    rw [List.map_map]
    rfl
  have HJn : Hid (∀ w bk c, (∀ j x, (ts.map fun t => t.s)[j]? = some x → w.cell? ⟨bk, j, none⟩ = some (.string x)) → bk < w.heap.size → ts.length ≤ c → Calls Try.prog 23 #[.slice (some ⟨bk, 0, none⟩) ts.length c, .string ⟨#[32]⟩] w (fun e w' => e = .returned (.string ⟨(Lib.join (ts.map (·.s.data.toList)) [32]).toArray⟩) ∧ Below w.heap.size w w')) := Lib.hid fun w bk c h1 h2 h3 => by
    have := Try.strings_Join bk 0 c (ts.map fun t => t.s) ⟨#[32]⟩ w (fun j x hx => by rw [Nat.zero_add]; exact h1 j x hx) h2 (by rw [List.length_map]; omega) (by rw [List.length_map]; exact h3) (by rw [hmap]; exact hJ)
    rw [hmap, List.length_map] at this
    exact this
  have HTx : Hid (∀ i t, ts[i]? = some t → (gtexts ts i).set i (Value.string t.s) = gtexts ts (i + 1)) := Lib.hid fun i t h => gtexts_set h
  have HAll : Hid (∀ j x, (ts.map fun t => t.s)[j]? = some x → (gtexts ts ts.length)[j]? = some (Value.string x)) := Lib.hid fun j x h => gtexts_all j x h
  have HLn : Hid (∀ i, i ≤ ts.length → (gtexts ts i).length = ts.length) := Lib.hid fun i h => gtexts_len ts h
  have H0 : Hid (gtexts ts 0 = (madeCells (Value.string ⟨#[]⟩).cells (ts.length * 1)).toList) := Lib.hid (by
    rw [Nat.mul_one]
    show _ = (madeCells #[Value.string ⟨#[]⟩] ts.length).toList
    rw [toList_madeCells_one]
    simp [gtexts])
  have HO := Lib.hid h
  have HEm : Hid (∀ i, i < ts.length → (gtexts ts i)[i]? = some (Value.string ⟨#[]⟩)) := Lib.hid fun i h => gtexts_at h
  clear hmap hJ hi hz0 hz1 hz2
  obtain ⟨n, hnn⟩ : ∃ n, ts.length = n := ⟨_, rfl⟩
  rcases Nat.eq_zero_or_pos n with h0 | h0
  · obtain ⟨A, c, rfl⟩ := grow_len h
    subst h0
    rw [hnn] at hn HJn H0 HAll HLn
    rw [hnn]
    clear h HTx
    go_enter Try.func12, Try.ntmps12
    go_wp2_with (at_make; refine wpList_make_full _ rfl (.tmp 7) (.tmp 7) 47 rfl W.heap.size 9 i0 (.string ⟨#[]⟩) 1 Try.underlying47 HI.out.1 HI.out.2.1 HI.out.2.2.1 .i64 .i64 _ _ 0 rfl rfl rfl rfl (by omega) (by unfold maxLen; omega) (Nat.le_refl _) ?_; intro w1 hown1 hgrow1; have O1 := Lib.hid hown1; have B1 := Lib.hid (Below.grown (Below.refl W.heap.size W) hgrow1 (Nat.le_refl _) (fun j hj => by cases hj)); clear hown1 hgrow1)
    have HJ0 := Lib.hid (HJn.out w1 W.heap.size 0 (fun j x hx => by
      rw [List.length_eq_zero_iff.1 hnn] at hx
      simp at hx) (O1.out.lt _ rfl).2 (Nat.le_refl _))
    refine wp_loop_rounds 1 ?_
    rw [rounds_succ]
    go_wp2_with (go_at_call 23; with_reducible refine (HJ0.out).mono ?_; rintro e w9 ⟨rfl, hb9⟩; have B9 := Lib.hid (B1.out.trans (hb9.mono B1.out.size)); clear hb9)
    go_ret
    exact ⟨rfl, B9.out⟩
  · obtain ⟨g, c, rfl, hgc, hat⟩ := grow_at h (by omega)
    have HAt := Lib.hid hat
    rw [hnn] at hn HJn H0 HAll HLn hgc HEm
    rw [hnn]
    have HGl := Lib.hid (h.lt g rfl).2
    have HTs : Hid (∀ i, i < n → ∃ t, ts[i]? = some t) := Lib.hid fun i hi => ⟨ts[i]'(by omega), List.getElem?_eq_getElem _⟩
    clear h hat
    go_enter Try.func12, Try.ntmps12
    go_wp2_with (at_make; refine wpList_make_full _ rfl (.tmp 7) (.tmp 7) 47 rfl W.heap.size 9 i0 (.string ⟨#[]⟩) 1 Try.underlying47 HI.out.1 HI.out.2.1 HI.out.2.2.1 .i64 .i64 _ _ n rfl rfl rfl rfl (by rw [HI.out.2.2.2]; omega) (by unfold maxLen; omega) (Nat.le_refl _) ?_; intro w1 hown1 hgrow1; have O1 := Lib.hid hown1; have B1 := Lib.hid (Below.grown (Below.refl W.heap.size W) hgrow1 (Nat.le_refl _) (fun j hj => by cases hj)); clear hown1 hgrow1)
    rw [← H0.out] at O1
    go_loopw [11] (fun v wr => ∃ i : Nat, v = .int .i64 (i : Int) ∧ i ≤ n ∧ wr.ownsRow W.heap.size 9 1 (.slice (some ⟨W.heap.size, 0, none⟩) n n) n (gtexts ts i) ∧ Below W.heap.size W wr) (fun v _ => n - (RowKit.intOf v).toNat)
    case atStart => exact ⟨0, rfl, Nat.zero_le _, O1.out, B1.out⟩
    case round =>
      obtain ⟨i, rfl, hin, hown, hbw⟩ := hrel
      by_cases hi : i < n
      · obtain ⟨t, ht⟩ := HTs.out i hi
        obtain ⟨x0, x1, x2, x3⟩ := HAt.out i t ht
        rw [← hbw.cell (p := ⟨g, i * 4, none⟩) HGl.out] at x0
        rw [← hbw.cell (p := ⟨g, i * 4 + 1, none⟩) HGl.out] at x1
        rw [← hbw.cell (p := ⟨g, i * 4 + 2, none⟩) HGl.out] at x2
        rw [← hbw.cell (p := ⟨g, i * 4 + 3, none⟩) HGl.out] at x3
        have HOw := Lib.hid hown
        have HBw := Lib.hid hbw
        have HO1 := hown.alloc (.cells #[.int .i64 t.k, .string t.s, .int .i64 t.n, .int .i64 t.a] 32)
        have f0 := HO1.frozenAt i
        have y0 := (HO1.cellAt i (by rw [Nat.mul_one]; exact hi)).trans (HEm.out i hi)
        have l0 := (HO1.lt _ rfl).2
        have HS := Lib.hid (HO1.stored i (.string t.s)).1
        clear HO1 hown
        go_wp2_with fail
        go_roundw
        case rel => exact ⟨i + 1, by go_num, by omega, by rw [← HTx.out i t ht]; exact HS.out, (HBw.out.alloc HBw.out.size _).setCell (p := ⟨W.heap.size, i, none⟩) (Nat.le_refl _) _⟩
        case measure => simp [RowKit.intOf]; omega
      · have hie : i = n := by omega
        subst hie
        have HJ0 := Lib.hid (HJn.out wr W.heap.size i (fun j x hx => by
          have h1 := HAll.out j x hx
          have h2 := hown.cellAt j (by
            have := (List.getElem?_eq_some_iff.1 h1).1
            rw [HLn.out i (Nat.le_refl _)] at this
            omega)
          exact h2.trans h1) (hown.lt _ rfl).2 (Nat.le_refl _))
        have HBw := Lib.hid hbw
        clear hi hbw
        go_wp2_with (go_at_call 23; with_reducible refine (HJ0.out).mono ?_; rintro e w9 ⟨rfl, hb9⟩; have B9 := Lib.hid (HBw.out.trans (hb9.mono HBw.out.size)); clear hb9)
        go_ret
        exact ⟨rfl, B9.out⟩
end
end Go.Proofs.Ytlkbapcienjdcaa
