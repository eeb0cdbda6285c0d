/- The contracts of New, Put and Get. -/
import Derived.Test.YtdgjbbcalffbcaaMSmall
import Derived.Laws.MakeOwn
import Derived.ChangeKeysEq
namespace Go.Proofs.Ytdgjbbcalffbcaa.Mem
open Go.RowKit
attribute [local go_sem ↓] Go.wp_at_zero Go.wp_at_succ

theorem made_places (n : Nat) (hn : n ≤ 65536) : ∃ cs : Array Value, cs.toList = placesC noneP n ∧ ∀ w, (Instr.makeSlice 79 (.int .i64 (n : Int)) (.int .i64 (n : Int))).run Try.prog w = .ok (.slice (some ⟨w.heap.size, 0, none⟩) n n) (w.alloc (.cells cs 115)) := by
  have hinfo : (Try.prog.info? 115).map (fun i => (i.zero, i.size, i.bytes)) = some (some (.agg #[.int .i64 0, .int .i64 0, .int .i64 0, .int .i64 0, .bool false]), 5, 40) := by kernel_rfl
  obtain ⟨i0, hi, hz0, hz1, hz2⟩ := info_parts hinfo
  refine ⟨madeCells #[.int .i64 0, .int .i64 0, .int .i64 0, .int .i64 0, .bool false] (n * 5), ?_, fun w => ?_⟩
  · apply List.ext_getElem?
    intro j
    by_cases hj : j < n * 5
    · have h1 : (placesC noneP n)[j]? = (plC none)[j % 5]? := by
        have := placesC_at noneP (s := j / 5) (i := j % 5) (n := n) (by omega) (by omega)
        rw [show j / 5 * 5 + j % 5 = j by omega] at this
        exact this
      rw [h1]
      unfold madeCells
      have h5 : j % 5 = 0 ∨ j % 5 = 1 ∨ j % 5 = 2 ∨ j % 5 = 3 ∨ j % 5 = 4 := by omega
      rcases h5 with h | h | h | h | h <;> simp [h, hj, plC]
    · rw [List.getElem?_eq_none (l := placesC noneP n) (by rw [placesC_len]; omega), List.getElem?_eq_none (by unfold madeCells; simp; omega)]
  · have := run_makeSlice (P := Try.prog) w 79 115 i0 (.agg #[.int .i64 0, .int .i64 0, .int .i64 0, .int .i64 0, .bool false]) Try.underlying79 hi hz0 .i64 .i64 (n : Int) (n : Int) (by omega) (Int.le_refl _) (by rw [hz1]; omega) (by rw [hz2]; omega) (by omega)
    rw [hz1] at this
    simpa [Value.cells] using this
/-- New: an empty memo, in two blocks of its own. -/
def RetNew (n : Nat) (w : World) (e : Ending) (w' : World) : Prop :=
  e = .returned (.pointer (some ⟨w.heap.size + 1, 0, none⟩)) ∧ MemoR w' (w.heap.size + 1) w.heap.size n n noneP ∧ Below w.heap.size w w'
theorem new_memo (w : World) {n : Nat} (h1 : 1 ≤ n) (h2 : n ≤ 65536) {cs : Array Value} (hcs : cs.toList = placesC noneP n) :
    MemoR ((w.alloc (.cells cs 115)).alloc (.cells #[.slice (some ⟨w.heap.size, 0, none⟩) n n, .int .i64 0] 81)) (w.heap.size + 1) w.heap.size n n noneP := by
  have hb := (Below.refl (w.alloc (.cells cs 115)).heap.size (w.alloc (.cells cs 115))).alloc (Nat.le_refl _) (.cells #[.slice (some ⟨w.heap.size, 0, none⟩) n n, .int .i64 0] 81)
  have ho := World.ownsRow_lit (base := 0) (e := 115) (size := 5) w cs n (Nat.zero_le _) (by unfold maxLen; omega) (by rw [← Array.length_toList, hcs, placesC_len])
  rw [hcs] at ho
  refine ⟨?_, own_below ho hb, by omega⟩
  have := Blk.new (w.alloc (.cells cs 115)) 81 #[.slice (some ⟨w.heap.size, 0, none⟩) n n, .int .i64 0]
  rw [lenP_none]
  simpa using this
theorem new_any (n : Int) (w : World) : Calls Try.prog 31 #[.int .i64 n] w (RetNew (sizeP n) w) := by
  obtain ⟨k, hk⟩ : ∃ k : Nat, sizeP n = k := ⟨_, rfl⟩
  have hbd := sizeP_bd n
  rw [hk] at hbd ⊢
  obtain ⟨cs, hcs, hmk⟩ := made_places k hbd.2
  have HN := Lib.hid (new_memo w hbd.1 hbd.2 hcs)
  have hm : min (max n 1) 65536 = (k : Int) := by rw [← hk]; unfold sizeP; omega
  clear hk hcs
  go_enter Try.func31, Try.ntmps31
  go_wp2_with fail
  go_ret
  exact ⟨rfl, HN.out, ((Below.refl _ _).alloc (Nat.le_refl _) _).alloc (by simp) _⟩

theorem keep_box {w W W1 : World} (hb : Below W.heap.size W W1) {p o : Nat} {x y z u : Option Value} (h : Below w.heap.size w W ∧ w.heap.size < W.heap.size ∧ p < W.heap.size ∧ W.cell? ⟨w.heap.size, 0, none⟩ = x ∧ W.cell? ⟨w.heap.size, 1, none⟩ = y ∧ W.cell? ⟨w.heap.size, 2, none⟩ = z ∧ W.cell? ⟨p, o, none⟩ = u) :
    Below w.heap.size w W1 ∧ w.heap.size < W1.heap.size ∧ p < W1.heap.size ∧ W1.cell? ⟨w.heap.size, 0, none⟩ = x ∧ W1.cell? ⟨w.heap.size, 1, none⟩ = y ∧ W1.cell? ⟨w.heap.size, 2, none⟩ = z ∧ W1.cell? ⟨p, o, none⟩ = u := by
  obtain ⟨h0, h1, h2, h3, h4, h5, h6⟩ := h
  have hs := hb.size
  exact ⟨h0.trans (hb.mono h0.size), by omega, by omega, (hb.cell (p := ⟨w.heap.size, 0, none⟩) h1).trans h3, (hb.cell (p := ⟨w.heap.size, 1, none⟩) h1).trans h4, (hb.cell (p := ⟨w.heap.size, 2, none⟩) h1).trans h5, (hb.cell (p := ⟨p, o, none⟩) h2).trans h6⟩
/-- The world with a key's box. -/
def boxed (W : World) (a b d : Int) : World := W.alloc (.cells #[.int .i64 a, .int .i64 b, .int .i64 d] 90)
theorem boxed_below (W : World) (a b d : Int) : Below W.heap.size W (boxed W a b d) := (Below.refl _ _).alloc (Nat.le_refl _) _
theorem boxed_blk (W : World) (a b d : Int) : Blk (boxed W a b d) W.heap.size 90 #[.int .i64 a, .int .i64 b, .int .i64 d] := Blk.new _ _ _
/-- The five cells of a place. -/
theorem MemoR.five {W : World} {p g n c : Nat} {T : Nat → Pl} {s : Nat} (h : MemoR W p g n c T) (hs : s < n) : ∃ u0 u1 u2 u3 : Int, (W.cell? ⟨g, s * 5, none⟩ = some (.int .i64 u0) ∧ W.cell? ⟨g, s * 5 + 1, none⟩ = some (.int .i64 u1) ∧ W.cell? ⟨g, s * 5 + 2, none⟩ = some (.int .i64 u2) ∧ W.cell? ⟨g, s * 5 + 3, none⟩ = some (.int .i64 u3) ∧ W.cell? ⟨g, s * 5 + 4, none⟩ = some (.bool (T s).isSome)) ∧ (∀ x, T s = some x → x = ((u0, u1, u2), u3)) ∧
    W.frozen? ⟨g, s * 5, none⟩ = false ∧ W.frozen? ⟨g, s * 5 + 1, none⟩ = false ∧ W.frozen? ⟨g, s * 5 + 2, none⟩ = false ∧ W.frozen? ⟨g, s * 5 + 3, none⟩ = false ∧ W.frozen? ⟨g, s * 5 + 4, none⟩ = false := by
  obtain ⟨e0, z0⟩ := h.place (i := 0) hs (by omega)
  obtain ⟨e1, z1⟩ := h.place (i := 1) hs (by omega)
  obtain ⟨e2, z2⟩ := h.place (i := 2) hs (by omega)
  obtain ⟨e3, z3⟩ := h.place (i := 3) hs (by omega)
  obtain ⟨e4, z4⟩ := h.place (i := 4) hs (by omega)
  cases ht : T s with
  | none => rw [ht] at e0 e1 e2 e3 e4; exact ⟨_, _, _, _, ⟨e0, e1, e2, e3, e4⟩, fun x h => (by cases h), z0, z1, z2, z3, z4⟩
  | some x => rw [ht] at e0 e1 e2 e3 e4; exact ⟨_, _, _, _, ⟨e0, e1, e2, e3, e4⟩, fun y h => (by injection h with h; exact h.symm), z0, z1, z2, z3, z4⟩
theorem grown_set (W : World) (a : Addr) (v : Value) : W.grownBy (W.setCell a v) (some a.block) :=
  ⟨rfl, rfl, rfl, (by simp), fun k _ hk => Below.heap_setCell _ _ _ k (fun e => hk (by rw [e]))⟩
theorem placesC_put {T T' : Nat → Pl} {s n : Nat} {x : Ky × Int} (hs : s < n) (h1 : T' s = some x) (h2 : ∀ t, t ≠ s → T' t = T t) :
    (((((placesC T n).set (s * 5) (.int .i64 x.1.1)).set (s * 5 + 1) (.int .i64 x.1.2.1)).set (s * 5 + 2) (.int .i64 x.1.2.2)).set (s * 5 + 3) (.int .i64 x.2)).set (s * 5 + 4) (.bool true) = placesC T' n := by
  apply List.ext_getElem?
  intro j
  by_cases hj : j < n * 5
  · have hl := placesC_len T n
    have hR := placesC_at T' (s := j / 5) (i := j % 5) (n := n) (by omega) (by omega)
    have hL := placesC_at T (s := j / 5) (i := j % 5) (n := n) (by omega) (by omega)
    rw [show j / 5 * 5 + j % 5 = j by omega] at hR hL
    rw [hR]
    by_cases e : j / 5 = s
    · rw [e, h1]
      have h5 : j % 5 = 0 ∨ j % 5 = 1 ∨ j % 5 = 2 ∨ j % 5 = 3 ∨ j % 5 = 4 := by omega
      simp only [List.getElem?_set, List.length_set, hl]
      rcases h5 with h | h | h | h | h <;> rw [h] <;> simp only [plC, List.getElem?_cons_zero, List.getElem?_cons_succ]
      · rw [if_neg (by omega), if_neg (by omega), if_neg (by omega), if_neg (by omega), if_pos (by omega), if_pos (by omega)]
      · rw [if_neg (by omega), if_neg (by omega), if_neg (by omega), if_pos (by omega), if_pos (by omega)]
      · rw [if_neg (by omega), if_neg (by omega), if_pos (by omega), if_pos (by omega)]
      · rw [if_neg (by omega), if_pos (by omega), if_pos (by omega)]
      · rw [if_pos (by omega), if_pos (by omega)]
    · rw [h2 _ e, ← hL]
      rw [List.getElem?_set_ne (by omega), List.getElem?_set_ne (by omega), List.getElem?_set_ne (by omega), List.getElem?_set_ne (by omega), List.getElem?_set_ne (by omega)]
  · rw [List.getElem?_eq_none (l := placesC T' n) (by rw [placesC_len]; omega), List.getElem?_eq_none (by simp [placesC_len]; omega)]
/-- A place is written. -/
def set5 (W : World) (g s : Nat) (x : Ky × Int) : World :=
  ((((W.setCell ⟨g, s * 5, none⟩ (.int .i64 x.1.1)).setCell ⟨g, s * 5 + 1, none⟩ (.int .i64 x.1.2.1)).setCell ⟨g, s * 5 + 2, none⟩ (.int .i64 x.1.2.2)).setCell ⟨g, s * 5 + 3, none⟩ (.int .i64 x.2)).setCell ⟨g, s * 5 + 4, none⟩ (.bool true)
theorem only_cell {own : Nat → Prop} (W : World) (a : Addr) (v : Value) (h : own a.block) : Only own W (W.setCell a v) :=
  Only.of_grown (grown_set W a v) fun r e => by injection e with e; exact e ▸ h
theorem set5_only {own : Nat → Prop} (W : World) {g : Nat} (s : Nat) (x : Ky × Int) (h : own g) : Only own W (set5 W g s x) :=
  (((((only_cell W _ _ h).trans (only_cell _ _ _ h) fun _ h => .inl h).trans (only_cell _ _ _ h) fun _ h => .inl h).trans (only_cell _ _ _ h) fun _ h => .inl h).trans (only_cell _ _ _ h) fun _ h => .inl h)
theorem MemoR.put {W W1 : World} {p g n c s : Nat} {T T' : Nat → Pl} {x : Ky × Int} {k : Nat} (h : MemoR W p g n c T) (hs : s < n) (h1 : T' s = some x) (h2 : ∀ t, t ≠ s → T' t = T t) (hk : lenP T' n = k)
    (hW : W1 = W.setCell ⟨p, 1, none⟩ (.int .i64 k) ∨ (W1 = W ∧ lenP T n = k)) : MemoR (set5 W1 g s x) p g n c T' ∧ Only (fun i => i = p ∨ i = g) W (set5 W1 g s x) := by
  have hb : Blk W1 p 81 #[.slice (some ⟨g, 0, none⟩) n c, .int .i64 (k : Nat)] ∧ W1.ownsRow 0 115 5 (.slice (some ⟨g, 0, none⟩) n c) n (placesC T n) ∧ Only (fun i => i = p ∨ i = g) W W1 := by
    rcases hW with rfl | ⟨rfl, e⟩
    · refine ⟨?_, h.row.kept (grown_set W ⟨p, 1, none⟩ _) (.inr ?_), only_cell _ _ _ (.inl rfl)⟩
      · have := h.blk.set_ 1 (.int .i64 k)
        simpa using this
      · exact own_blk_ne h.row h.blk (by decide)
    · exact ⟨by rw [← e]; exact h.blk, h.row, Only.refl _ _⟩
  obtain ⟨hb, hr, ho⟩ := hb
  have hgp : p ≠ g := fun e => h.gp e.symm
  have h0 := (hr.stored (s * 5) (.int .i64 x.1.1)).1
  have h3 := (h0.stored (s * 5 + 1) (.int .i64 x.1.2.1)).1
  have h4 := (h3.stored (s * 5 + 2) (.int .i64 x.1.2.2)).1
  have h5 := (h4.stored (s * 5 + 3) (.int .i64 x.2)).1
  have h6 := (h5.stored (s * 5 + 4) (.bool true)).1
  rw [placesC_put hs h1 h2] at h6
  refine ⟨⟨?_, h6, h.room⟩, ho.trans (set5_only W1 s x (own := fun i => i = p ∨ i = g) (.inr rfl)) fun _ h => .inl h⟩
  rw [hk]
  exact ((((hb.far (p := ⟨g, _, none⟩) hgp _).far (p := ⟨g, _, none⟩) hgp _).far (p := ⟨g, _, none⟩) hgp _).far (p := ⟨g, _, none⟩) hgp _).far (p := ⟨g, _, none⟩) hgp _
section
variable {W : World} {p g n c : Nat} {T : Nat → Pl}
/-- Put: what is in the place then. -/
def RetPut (p g n c : Nat) (T : Nat → Pl) (x : Ky × Int) (w : World) (e : Ending) (w' : World) : Prop :=
  (∃ v, e = .returned v) ∧ MemoR w' p g n c (putP n T x) ∧ Only (fun i => i = p ∨ i = g) w w'
set_option maxRecDepth 100000 in
set_option maxHeartbeats 1600000 in
theorem put_any {a b d v : Int} (h : MemoR W p g n c T) :
    Calls Try.prog 58 #[.pointer (some ⟨p, 0, none⟩), .agg #[.int .i64 a, .int .i64 b, .int .i64 d], .int .i64 v] W (RetPut p g n c T ((a, b, d), v) W) := by
  obtain ⟨s, hs⟩ : ∃ s, s = slotP n (a, b, d) := ⟨_, rfl⟩
  have hsn : s < n := by rw [hs]; exact (slotP_is h.room.1 _).2
  have hroom := h.room
  have HS : Hid (∀ w1, (Below W.heap.size W w1 ∧ W.heap.size < w1.heap.size ∧ p < w1.heap.size ∧ w1.cell? ⟨W.heap.size, 0, none⟩ = some (.int .i64 a) ∧ w1.cell? ⟨W.heap.size, 1, none⟩ = some (.int .i64 b) ∧ w1.cell? ⟨W.heap.size, 2, none⟩ = some (.int .i64 d) ∧ w1.cell? ⟨p, 0, none⟩ = some (.slice (some ⟨g, 0, none⟩) n c)) → Calls Try.prog 72 #[.pointer (some ⟨p, 0, none⟩), .agg #[.int .i64 a, .int .i64 b, .int .i64 d]] w1 (RetB (.int .i64 (s : Nat)) w1)) :=
    Lib.hid fun w1 h1 => by rw [hs]; exact slot_any a b d h1.2.2.2.2.2.2 h.room.1 h.room.2
  have hb0 := boxed_below W a b d
  have HB := Lib.hid (boxed_blk W a b d)
  have K0 : Hid (Below W.heap.size W (boxed W a b d).drew ∧ W.heap.size < (boxed W a b d).drew.heap.size ∧ p < (boxed W a b d).drew.heap.size ∧ (boxed W a b d).drew.cell? ⟨W.heap.size, 0, none⟩ = some (.int .i64 a) ∧ (boxed W a b d).drew.cell? ⟨W.heap.size, 1, none⟩ = some (.int .i64 b) ∧ (boxed W a b d).drew.cell? ⟨W.heap.size, 2, none⟩ = some (.int .i64 d) ∧ (boxed W a b d).drew.cell? ⟨p, 0, none⟩ = some (.slice (some ⟨g, 0, none⟩) n c)) :=
    Lib.hid ⟨hb0.drew, HB.out.lt, Nat.lt_of_lt_of_le h.blk.lt hb0.size, HB.out.cell 0, HB.out.cell 1, HB.out.cell 2, (hb0.cell (p := ⟨p, 0, none⟩) h.blk.lt).trans h.c0⟩
  unfold boxed at K0
  have HM := Lib.hid h
  have HSl := Lib.hid hs
  have hplt := h.blk.lt
  have hglt := h.glt
  have hgp := h.gp
  have hle := lenP_le T n
  clear h hs hb0
  cases ht : T s
  · have HT := Lib.hid ht
    clear ht
    go_enter Try.func58, Try.ntmps58
    go_wp2_with fail
    go_region_held3 (fun w' => Below W.heap.size W w' ∧ W.heap.size < w'.heap.size ∧ p < w'.heap.size ∧ w'.cell? ⟨W.heap.size, 0, none⟩ = some (.int .i64 a) ∧ w'.cell? ⟨W.heap.size, 1, none⟩ = some (.int .i64 b) ∧ w'.cell? ⟨W.heap.size, 2, none⟩ = some (.int .i64 d) ∧ w'.cell? ⟨p, 0, none⟩ = some (.slice (some ⟨g, 0, none⟩) n c))
      (first | (with_reducible exact K0.out) | (with_reducible exact keep_box hb1 (by assumption)))
      (first
        | (go_at_call 72; ((with_reducible refine (HS.out _ (by assumption)).mono ?_); rintro e w1 ⟨rfl, hb1⟩)))
    have hbw := K0.out.1.trans (hb1.mono K0.out.1.size)
    have hM := HM.out.below hbw
    obtain ⟨u0, u1, u2, u3, ⟨y0, y1, y2, y3, y4⟩, -, z0, z1, z2, z3, z4⟩ := hM.five hsn
    rw [HT.out] at y4
    replace y4 : w1.cell? ⟨g, s * 5 + 4, none⟩ = some (.bool false) := y4
    have p1 := hM.c1
    have pf := hM.blk.frozen 1
    have HW := Lib.hid (And.intro hbw hM)
    clear hbw hM hb1
    go_wp2_with fail
    go_end0
    have hput := HW.out.2.put (T' := putP n T ((a, b, d), v)) (x := ((a, b, d), v)) (k := lenP T n + 1) hsn (by rw [HSl.out]; exact putP_at _ _ _) (fun t ht => putP_far _ _ _ (by rw [← HSl.out]; exact ht)) (by rw [lenP_put (by omega), ← HSl.out, HT.out]; rfl) (.inl rfl)
    refine ⟨⟨_, rfl⟩, ?_, ?_⟩
    · exact hput.1
    · exact (Only.of_below HW.out.1 _).trans hput.2 fun _ h => .inl h
  · have HT := Lib.hid ht
    clear ht
    go_enter Try.func58, Try.ntmps58
    go_wp2_with fail
    go_region_held3 (fun w' => Below W.heap.size W w' ∧ W.heap.size < w'.heap.size ∧ p < w'.heap.size ∧ w'.cell? ⟨W.heap.size, 0, none⟩ = some (.int .i64 a) ∧ w'.cell? ⟨W.heap.size, 1, none⟩ = some (.int .i64 b) ∧ w'.cell? ⟨W.heap.size, 2, none⟩ = some (.int .i64 d) ∧ w'.cell? ⟨p, 0, none⟩ = some (.slice (some ⟨g, 0, none⟩) n c))
      (first | (with_reducible exact K0.out) | (with_reducible exact keep_box hb1 (by assumption)))
      (first
        | (go_at_call 72; ((with_reducible refine (HS.out _ (by assumption)).mono ?_); rintro e w1 ⟨rfl, hb1⟩)))
    have hbw := K0.out.1.trans (hb1.mono K0.out.1.size)
    have hM := HM.out.below hbw
    obtain ⟨u0, u1, u2, u3, ⟨y0, y1, y2, y3, y4⟩, -, z0, z1, z2, z3, z4⟩ := hM.five hsn
    rw [HT.out] at y4
    replace y4 : w1.cell? ⟨g, s * 5 + 4, none⟩ = some (.bool true) := y4
    have p1 := hM.c1
    have pf := hM.blk.frozen 1
    have HW := Lib.hid (And.intro hbw hM)
    clear hbw hM hb1
    go_wp2_with fail
    go_end0
    have hput := HW.out.2.put (T' := putP n T ((a, b, d), v)) (x := ((a, b, d), v)) (k := lenP T n) hsn (by rw [HSl.out]; exact putP_at _ _ _) (fun t ht => putP_far _ _ _ (by rw [← HSl.out]; exact ht)) (by rw [lenP_put (by omega), ← HSl.out, HT.out]; rfl) (.inr ⟨rfl, rfl⟩)
    refine ⟨⟨_, rfl⟩, ?_, ?_⟩
    · exact hput.1
    · exact (Only.of_below HW.out.1 _).trans hput.2 fun _ h => .inl h
end
end Go.Proofs.Ytdgjbbcalffbcaa.Mem
