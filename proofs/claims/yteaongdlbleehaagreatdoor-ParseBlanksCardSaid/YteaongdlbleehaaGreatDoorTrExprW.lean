/- The tree layer: an expression, as it is written. -/
import Derived.Test.YteaongdlbleehaaGreatDoorGTrBuild
import Derived.Test.YteaongdlbleehaaGreatDoorShelf
import Derived.Lib.SmallJoins
import Derived.Lib.AppendIntMem
namespace Go.Proofs.YteaongdlbleehaaGreatDoor
open Go.RowKit
/-- What the library's table holds. -/
def Tabs (w : World) : Prop := Lib.TabIs Tryz.prog w "internal/strconv.uint64pow10" .u64 Lib.pow10Tab
theorem gPow : Tryz.prog.globalNamed "internal/strconv.uint64pow10" = some 1 := by kernel_rfl
theorem Tabs.stays {w w' : World} (h : Tabs w) (hb : Below w.heap.size w w') : Tabs w' := Joins.tab_stays gPow h hb (Nat.le_refl _)
def TabB (b : Nat) (w : World) : Prop := Tabs w ∧ 1 < b
theorem TabB.below {b : Nat} {w w' : World} (h : TabB b w) (hb : Below b w w') : TabB b w' := by
  refine ⟨?_, h.2⟩
  have h1 := h.1
  unfold Tabs Lib.TabIs at h1 ⊢
  unfold World.var? at h1 ⊢
  rw [gPow] at h1 ⊢
  simp only [Option.bind_some] at h1 ⊢
  rw [hb.block _ h.2]
  exact h1
theorem Wr.below {b : Nat} {l : Bs} {w w' : World} (h : Wr b l w) (hb : Below w.heap.size w w') : Wr b l w' := by
  have hlt := h.lt
  have go : ∀ p, Lib.BuilderAtF 95 5 b b p (Lib.byteCells l) w → Lib.BuilderAtF 95 5 b b p (Lib.byteCells l) w' := fun p ⟨hB, v, hbk, hown, hne⟩ => by
    refine ⟨hB, v, (hb.block b hlt).trans hbk, ⟨hown.1, ?_⟩, hne⟩
    rcases hown.2 with q | ⟨g, cap, cur, fz, e1, e2, e3, r⟩
    · exact .inl q
    · exact .inr ⟨g, cap, cur, fz, e1, e2, (hb.block g (Array.getElem?_eq_some_iff.1 e3).1).trans e3, r⟩
  refine ⟨?_, fun e => ?_⟩
  · rcases h.1 with q | q
    · exact .inl (go _ q)
    · exact .inr (go _ q)
  · obtain ⟨p, hp⟩ := h.2 e
    exact ⟨p, (hb.block b hlt).trans hp⟩
theorem RetWr.quiet {b : Nat} {l : Bs} {w w1 w2 : World} (h : RetWr b l w w1) (hb : Below w1.heap.size w1 w2) : RetWr b l w w2 :=
  ⟨h.1.below hb, h.2.1.trans (hb.mono (Nat.le_of_lt h.1.lt)), h.2.2.trans fun k _ hk _ _ => (hb.block k (Array.getElem?_eq_some_iff.1 hk).1).trans hk⟩
theorem RetWr.tab {b : Nat} {l : Bs} {w w1 : World} (h : RetWr b l w w1) (ht : TabB b w) : TabB b w1 := ht.below h.2.1
abbrev tE (x : Ex) : Bs := textE Lib.itoa x
abbrev tL (l : List Ex) : List (Bs × Bool) := textL Lib.itoa l
theorem tL_at (l : List Ex) (i : Nat) : (tL l)[i]? = (l[i]?).map fun x => (tE x, opensO x.op) := by
  induction l generalizing i with
  | nil => simp [textL]
  | cons x l ih =>
    cases i with
    | zero => rfl
    | succ i => simpa [textL] using ih i
theorem tE_form (x : Ex) : tE x = form Lib.itoa x.op x.nm x.n (tL x.l) := by cases x; rfl
theorem part0_some {l : List Ex} {i : Nat} {x : Ex} (h : l[i]? = some x) : part0 (tL l) i = tE x := by
  unfold part0; rw [tL_at, h]; rfl
theorem part0_none {l : List Ex} {i : Nat} (h : l.length ≤ i) : part0 (tL l) i = [] := by
  unfold part0; rw [tL_at, List.getElem?_eq_none h]; rfl
theorem clos_some {l : List Ex} {i : Nat} {x : Ex} (h : l[i]? = some x) : clos (tL l) i = if opensO x.op then [40] ++ tE x ++ [41] else tE x := by
  unfold clos; rw [tL_at, h]; rfl
theorem clos_none {l : List Ex} {i : Nat} (h : l.length ≤ i) : clos (tL l) i = [] := by
  unfold clos; rw [tL_at, List.getElem?_eq_none h]; rfl
/-- ExprW, so deep. -/
def ExprW (n : Nat) : Prop := ∀ (b : Nat) (P : Nat → Prop) (acc : Bs) (l : List Ex) (v : Value) (op nm : ByteArray) (k a : Int) (w : World), ExR P n w l v → (∀ x, P x → x < b) → Wr b acc w → TabB b w → In64 k → acc.length + (form Lib.itoa op nm k (tL l)).length ≤ 140737488355328 →
  Calls Tryz.prog 46 #[.pointer (some ⟨b, 0, none⟩), exV op nm k v a] w fun e w' => e = .returned (.tuple #[]) ∧ RetWr b (acc ++ form Lib.itoa op nm k (tL l)) w w'
/-- PartW, so deep. -/
def PartW (n : Nat) : Prop := ∀ (b : Nat) (P : Nat → Prop) (acc : Bs) (l : List Ex) (v : Value) (i : Nat) (w : World), ExR P n w l v → (∀ x, P x → x < b) → Wr b acc w → TabB b w → i ≤ 1 → acc.length + (part0 (tL l) i).length ≤ 140737488355328 →
  Calls Tryz.prog 105 #[.pointer (some ⟨b, 0, none⟩), v, .int .i64 (i : Int)] w fun e w' => e = .returned (.tuple #[]) ∧ RetWr b (acc ++ part0 (tL l) i) w w'
/-- ClosedW, so deep. -/
def ClosedW (n : Nat) : Prop := ∀ (b : Nat) (P : Nat → Prop) (acc : Bs) (l : List Ex) (v : Value) (i : Nat) (w : World), ExR P n w l v → (∀ x, P x → x < b) → Wr b acc w → TabB b w → i ≤ 1 → acc.length + (clos (tL l) i).length ≤ 140737488355328 →
  Calls Tryz.prog 78 #[.pointer (some ⟨b, 0, none⟩), v, .int .i64 (i : Int)] w fun e w' => e = .returned (.tuple #[]) ∧ RetWr b (acc ++ clos (tL l) i) w w'
/-- PlaceW, so deep. -/
def PlaceW (n : Nat) : Prop := ∀ (b : Nat) (P : Nat → Prop) (acc : Bs) (l : List Ex) (v : Value) (nm : ByteArray) (w : World), ExR P n w l v → (∀ x, P x → x < b) → Wr b acc w → TabB b w → acc.length + (placeF nm (tL l)).length ≤ 140737488355328 →
  Calls Tryz.prog 77 #[.pointer (some ⟨b, 0, none⟩), .string nm, v] w fun e w' => e = .returned (.tuple #[]) ∧ RetWr b (acc ++ placeF nm (tL l)) w w'
section
set_option maxHeartbeats 3200000 in
set_option maxRecDepth 100000 in
theorem part_step {n : Nat} (ih : ExprW n) : PartW (n + 1) := by
  intro b P acc l v i w h hP hw ht hi hlen
  obtain ⟨A, cap, rfl, hc, hl, hat⟩ := h
  have hl2 : l.length ≤ 2199023255552 := by omega
  have HW := Lib.hid hw
  by_cases hlt : i < l.length
  · obtain ⟨x, hx⟩ : ∃ x, l[i]? = some x := ⟨l[i]'hlt, List.getElem?_eq_getElem _⟩
    obtain ⟨bb, off, L, rfl, hbB, ha, hi1, -, hr⟩ := hat i x hx
    obtain ⟨x0, x1, x2, x3, x4⟩ := ha
    have HC := Lib.hid (ih b P acc x.l L x.op x.nm x.n x.a w hr hP hw ht hi1 (by rw [← tE_form, ← part0_some hx]; exact hlen))
    have HE : Hid (part0 (tL l) i = form Lib.itoa x.op x.nm x.n (tL x.l)) := Lib.hid (by rw [← tE_form, ← part0_some hx])
    obtain ⟨m, hm⟩ : ∃ m, l.length = m := ⟨_, rfl⟩
    rw [HE.out]
    rw [hm] at hlt hl2 hc ⊢
    clear hat hx hr hlen hw hm ht
    go_enter Tryz.func105, Tryz.ntmps105
    go_wp2_with (go_at_call 46; have HX := HC.out; (with_reducible refine HX.mono ?_); clear HX; rintro e w1 ⟨rfl, hb⟩; have HB := Lib.hid hb; clear hb)
    go_end0
    exact ⟨rfl, HB.out⟩
  · have HE : Hid (part0 (tL l) i = []) := Lib.hid (part0_none (by omega))
    rw [HE.out, List.append_nil]
    obtain ⟨m, hm⟩ : ∃ m, l.length = m := ⟨_, rfl⟩
    rw [hm] at hlt hl2 hc ⊢
    clear hat hlen hw hm ht
    go_enter Tryz.func105, Tryz.ntmps105
    go_wp2
    go_end0
    exact ⟨rfl, RetWr.refl HW.out⟩
set_option maxHeartbeats 3200000 in
set_option maxRecDepth 100000 in
theorem place_step {n : Nat} (ih : PartW n) : PlaceW n := by
  intro b P acc l v nm w h hP hw ht hlen
  unfold placeF at hlen ⊢
  simp only [List.length_append, list_size_, List.length_cons, List.length_nil] at hlen
  have HW := Lib.hid hw
  have H1 := Lib.hid (texts2 nm ⟨#[91]⟩ nm.data.toList [91] rfl rfl hw (by simp only [List.length_cons, List.length_nil, list_size_]; omega))
  have HP : Hid (∀ w1, RetWr b (acc ++ (nm.data.toList ++ [91])) w w1 → Calls Tryz.prog 105 #[.pointer (some ⟨b, 0, none⟩), v, .int .i64 0] w1 fun e w' => e = .returned (.tuple #[]) ∧ RetWr b (acc ++ (nm.data.toList ++ [91]) ++ part0 (tL l) 0) w1 w') := Lib.hid fun w1 h1 =>
    ih b P _ l v 0 w1 (h.below h1.2.1 hP) hP h1.1 (h1.tab ht) (by omega) (by simp only [List.length_append, list_size_, List.length_cons, List.length_nil]; omega)
  have H3 : Hid (∀ w1, Wr b (acc ++ (nm.data.toList ++ [91]) ++ part0 (tL l) 0) w1 → _) := Lib.hid fun w1 h1 => texts1 ⟨#[93]⟩ [93] rfl h1 (by simp only [List.length_append, list_size_, List.length_cons, List.length_nil]; omega)
  obtain ⟨A, c, rfl, -, -⟩ := h.slice
  clear h hw ht hlen
  go_enter Tryz.func77, Tryz.ntmps77
  go_wp2_with (first
    | (go_at_call 41; have HX := H1.out; (with_reducible refine HX.mono ?_); clear HX; rintro e w1 ⟨rfl, hb⟩; have R1 := Lib.hid hb; clear hb)
    | (go_at_call 105; have HX := HP.out _ R1.out; (with_reducible refine HX.mono ?_); clear HX; rintro e w2 ⟨rfl, hb⟩; have R2 := Lib.hid (R1.out.trans hb); clear hb)
    | (go_at_call 41; have HX := H3.out _ R2.out.1; (with_reducible refine HX.mono ?_); clear HX; rintro e w3 ⟨rfl, hb⟩; have R3 := Lib.hid (R2.out.trans hb); clear hb))
  go_end0
  exact ⟨rfl, R3.out.of (by simp)⟩
set_option maxHeartbeats 3200000 in
set_option maxRecDepth 100000 in
theorem closed_step {n : Nat} (ih : PartW n) : ClosedW n := by
  intro b P acc l v i w h hP hw ht hi hlen
  have HW := Lib.hid hw
  have HP : Hid (∀ acc' w1, RetWr b acc' w w1 → acc'.length + (part0 (tL l) i).length ≤ 140737488355328 → Calls Tryz.prog 105 #[.pointer (some ⟨b, 0, none⟩), v, .int .i64 (i : Int)] w1 fun e w' => e = .returned (.tuple #[]) ∧ RetWr b (acc' ++ part0 (tL l) i) w1 w') := Lib.hid fun acc' w1 h1 h2 =>
    ih b P _ l v i w1 (h.below h1.2.1 hP) hP h1.1 (h1.tab ht) hi h2
  cases n with
  | zero => exact h.elim
  | succ n =>
    obtain ⟨A, cap, rfl, hc, hl, hat⟩ := h
    have hl2 : l.length ≤ 2199023255552 := by omega
    by_cases hlt : i < l.length
    · obtain ⟨x, hx⟩ : ∃ x, l[i]? = some x := ⟨l[i]'hlt, List.getElem?_eq_getElem _⟩
      obtain ⟨bb, off, L, rfl, hbB, ha, hi1, -, hr⟩ := hat i x hx
      have x0 := ha.1
      have HO := Lib.hid (opens_any x.op w)
      have hcl := clos_some hx
      have hpt := part0_some hx
      rw [hcl] at hlen ⊢
      obtain ⟨q, hq⟩ : ∃ q, q = opensO x.op := ⟨_, rfl⟩
      rw [← hq] at HO hlen ⊢
      rw [hpt] at HP
      obtain ⟨m, hm⟩ : ∃ m, l.length = m := ⟨_, rfl⟩
      rw [hm] at hlt hl2 hc HP ⊢
      have g1 : decide (m ≤ i) = false := decide_eq_false (by omega)
      have g2 : decide ((m : Int) ≤ (i : Int)) = false := decide_eq_false (by omega)
      obtain ⟨T, hT⟩ : ∃ T, T = tE x := ⟨_, rfl⟩
      rw [← hT] at HP hlen ⊢
      clear hat hx hr hw hm ht ha hq hcl hpt hT
      cases q
      · simp only [Bool.false_eq_true, if_false] at hlen ⊢
        have H1 := Lib.hid (HP.out acc w (RetWr.refl HW.out) hlen)
        clear hlen
        go_enter Tryz.func78, Tryz.ntmps78
        go_wp2_with (first
          | (go_at_call 107; have HX := HO.out; (with_reducible refine HX.mono ?_); clear HX; rintro e w1 ⟨rfl, rfl⟩)
          | (go_at_call 105; have HX := H1.out; (with_reducible refine HX.mono ?_); clear HX; rintro e w2 ⟨rfl, hb⟩; have R2 := Lib.hid hb; clear hb))
        exact bodyPost_ret (v := .tuple #[]) (by simp [results, Tryz.results78, go_sem]) rfl ⟨rfl, R2.out⟩
      · simp only [if_true] at hlen ⊢
        simp only [List.length_append, List.length_cons, List.length_nil] at hlen
        have H1 := Lib.hid (texts1 ⟨#[40]⟩ [40] rfl HW.out (by simp only [List.length_cons, List.length_nil]; omega))
        have H2 : Hid (∀ w1, RetWr b (acc ++ [40]) w w1 → _) := Lib.hid fun w1 h1 => HP.out _ w1 h1 (by simp only [List.length_append, List.length_cons, List.length_nil]; omega)
        have H3 : Hid (∀ w1, Wr b (acc ++ [40] ++ T) w1 → _) := Lib.hid fun w1 h1 => texts1 ⟨#[41]⟩ [41] rfl h1 (by simp only [List.length_append, List.length_cons, List.length_nil]; omega)
        clear hlen
        go_enter Tryz.func78, Tryz.ntmps78
        go_wp2_with (first
          | (go_at_call 107; have HX := HO.out; (with_reducible refine HX.mono ?_); clear HX; rintro e w1 ⟨rfl, rfl⟩)
          | (go_at_call 41; have HX := H1.out; (with_reducible refine HX.mono ?_); clear HX; rintro e w2 ⟨rfl, hb⟩; have R2 := Lib.hid hb; clear hb)
          | (go_at_call 105; have HX := H2.out _ R2.out; (with_reducible refine HX.mono ?_); clear HX; rintro e w3 ⟨rfl, hb⟩; have R3 := Lib.hid (R2.out.trans hb); clear hb)
          | (go_at_call 41; have HX := H3.out _ R3.out.1; (with_reducible refine HX.mono ?_); clear HX; rintro e w4 ⟨rfl, hb⟩; have R4 := Lib.hid (R3.out.trans hb); clear hb))
        go_end0
        exact ⟨rfl, R4.out.of (by simp)⟩
    · have hp0 := part0_none (l := l) (i := i) (by omega)
      have hcl := clos_none (l := l) (i := i) (by omega)
      rw [hcl] at hlen ⊢
      rw [hp0] at HP
      obtain ⟨m, hm⟩ : ∃ m, l.length = m := ⟨_, rfl⟩
      rw [hm] at hlt hl2 hc HP ⊢
      have g1 : decide (m ≤ i) = true := decide_eq_true (by omega)
      have g2 : decide ((m : Int) ≤ (i : Int)) = true := decide_eq_true (by omega)
      have H1 := Lib.hid (HP.out acc w (RetWr.refl HW.out) hlen)
      clear hat hw hm ht hp0 hcl hlen
      go_enter Tryz.func78, Tryz.ntmps78
      go_wp2_with (go_at_call 105; have HX := H1.out; (with_reducible refine HX.mono ?_); clear HX; rintro e w2 ⟨rfl, hb⟩; have R2 := Lib.hid hb; clear hb)
      exact bodyPost_ret (v := .tuple #[]) (by simp [results, Tryz.results78, go_sem]) rfl ⟨rfl, R2.out⟩
set_option maxHeartbeats 6400000 in
set_option maxRecDepth 100000 in
theorem expr_step {n : Nat} (hcl : ClosedW n) (hpl : PlaceW n) : ExprW n := by
  intro b P acc l v op nm k a w h hP hw ht hk hlen
  have HW := Lib.hid hw
  have HT := Lib.hid ht
  obtain ⟨A, cap, rfl, -, -⟩ := h.slice
  have HCl : Hid (∀ acc' w1 (i : Nat), i ≤ 1 → RetWr b acc' w w1 → acc'.length + (clos (tL l) i).length ≤ 140737488355328 → Calls Tryz.prog 78 #[.pointer (some ⟨b, 0, none⟩), .slice A l.length cap, .int .i64 (i : Int)] w1 fun e w' => e = .returned (.tuple #[]) ∧ RetWr b (acc' ++ clos (tL l) i) w1 w') := Lib.hid fun acc' w1 i hi h1 h2 =>
    hcl b P _ l _ i w1 (h.below h1.2.1 hP) hP h1.1 (h1.tab ht) hi h2
  have HPl : Hid (∀ w1, RetWr b acc w w1 → acc.length + (placeF nm (tL l)).length ≤ 140737488355328 → Calls Tryz.prog 77 #[.pointer (some ⟨b, 0, none⟩), .string nm, .slice A l.length cap] w1 fun e w' => e = .returned (.tuple #[]) ∧ RetWr b (acc ++ placeF nm (tL l)) w1 w') := Lib.hid fun w1 h1 h2 =>
    hpl b P _ l _ nm w1 (h.below h1.2.1 hP) hP h1.1 (h1.tab ht) h2
  obtain ⟨W0, hW0⟩ : ∃ W0, W0 = w.alloc (.cells #[.string op, .string nm, .int .i64 k, .slice A l.length cap, .int .i64 a] 52) := ⟨_, rfl⟩
  have R0 : Hid (RetWr b acc w W0) := Lib.hid (by rw [hW0]; exact (RetWr.refl hw).alloc _)
  have HK : Hid (Blk W0 w.heap.size 52 #[.string op, .string nm, .int .i64 k, .slice A l.length cap, .int .i64 a]) := Lib.hid (by rw [hW0]; exact Blk.new w _ _)
  have HW0 := Lib.hid hW0
  have HNe : Hid (w.heap.size ≠ b) := Lib.hid (Nat.ne_of_gt hw.lt)
  have HC : Hid (∀ w1, Kept b W0 w1 → w1.cell? ⟨w.heap.size, 0, none⟩ = some (.string op) ∧ w1.cell? ⟨w.heap.size, 3, none⟩ = some (.slice A l.length cap)) := Lib.hid fun w1 hk1 => ⟨(HK.out.keptW hk1 HNe.out (by decide)).cell 0, (HK.out.keptW hk1 HNe.out (by decide)).cell 3⟩
  have x0 := HK.out.cell 0
  have x1 := HK.out.cell 1
  have x2 := HK.out.cell 2
  have x3 := HK.out.cell 3
  simp at x0 x1 x2 x3
  clear h hw ht hW0
  unfold form at hlen ⊢
  have HI := Lib.hid hk
  clear hk
  cases h0 : (op.toList == [110, 117, 109])
  · cases h1 : (op.toList == [110, 97, 109, 101])
    · cases h2 : (op.toList == [97, 116])
      · cases h3 : (op.toList == [110, 101, 103])
        · cases h4 : (op.toList == [110, 111, 116])
          · cases h5 : ofTwoO op
            · have HO := Lib.hid (ofTwo_any op W0)
              rw [h5] at HO
              rw [show (op.toList == oNum) = false from h0] at hlen ⊢
              simp only [Bool.false_eq_true, if_false] at hlen ⊢
              rw [show (op.toList == oName) = false from h1] at hlen ⊢
              simp only [Bool.false_eq_true, if_false] at hlen ⊢
              rw [show (op.toList == oAt) = false from h2] at hlen ⊢
              simp only [Bool.false_eq_true, if_false] at hlen ⊢
              rw [show (op.toList == oNeg) = false from h3] at hlen ⊢
              simp only [Bool.false_eq_true, if_false] at hlen ⊢
              rw [show (op.toList == oNot) = false from h4] at hlen ⊢
              simp only [Bool.false_eq_true, if_false] at hlen ⊢
              rw [h5] at hlen
              simp only [Bool.false_eq_true, if_false] at hlen ⊢
              have H1 := Lib.hid (texts1 op op.data.toList rfl R0.out.1 hlen)
              go_enter Tryz.func46, Tryz.ntmps46
              go_upto_region 2 with fail
              rw [← HW0.out]
              go_wp2_with (first
                | (go_at_call 79; have HX := HO.out; (with_reducible refine HX.mono ?_); clear HX; rintro e w1 ⟨rfl, rfl⟩)
                | (go_at_call 41; have HX := H1.out; (with_reducible refine HX.mono ?_); clear HX; rintro e w2 ⟨rfl, hb⟩; have R2 := Lib.hid (R0.out.trans hb); clear hb))
              go_end0
              exact ⟨rfl, R2.out⟩
            · have HO := Lib.hid (ofTwo_any op W0)
              rw [h5] at HO
              rw [show (op.toList == oNum) = false from h0] at hlen ⊢
              simp only [Bool.false_eq_true, if_false] at hlen ⊢
              rw [show (op.toList == oName) = false from h1] at hlen ⊢
              simp only [Bool.false_eq_true, if_false] at hlen ⊢
              rw [show (op.toList == oAt) = false from h2] at hlen ⊢
              simp only [Bool.false_eq_true, if_false] at hlen ⊢
              rw [show (op.toList == oNeg) = false from h3] at hlen ⊢
              simp only [Bool.false_eq_true, if_false] at hlen ⊢
              rw [show (op.toList == oNot) = false from h4] at hlen ⊢
              simp only [Bool.false_eq_true, if_false] at hlen ⊢
              rw [h5] at hlen
              simp only [if_true] at hlen ⊢
              simp only [List.length_append, List.length_cons, List.length_nil, list_size_] at hlen
              have H1 : Hid (Calls Tryz.prog 78 #[.pointer (some ⟨b, 0, none⟩), .slice A l.length cap, .int .i64 0] W0 fun e w' => e = .returned (.tuple #[]) ∧ RetWr b (acc ++ clos (tL l) 0) W0 w') := Lib.hid (HCl.out _ W0 0 (by omega) R0.out (by omega))
              have H2 : Hid (∀ w1, Wr b (acc ++ clos (tL l) 0) w1 → _) := Lib.hid fun w1 h1 => texts3 ⟨#[32]⟩ op ⟨#[32]⟩ [32] op.data.toList [32] rfl rfl rfl h1 (by simp only [List.length_append, List.length_cons, List.length_nil, list_size_]; omega)
              have H3 : Hid (∀ acc' w1, RetWr b acc' w w1 → acc'.length + (clos (tL l) 1).length ≤ 140737488355328 → Calls Tryz.prog 78 #[.pointer (some ⟨b, 0, none⟩), .slice A l.length cap, .int .i64 1] w1 fun e w' => e = .returned (.tuple #[]) ∧ RetWr b (acc' ++ clos (tL l) 1) w1 w') := Lib.hid fun acc' w1 h1 h2 => HCl.out _ w1 1 (by omega) h1 h2
              have HLn := Lib.hid hlen
              clear hlen
              go_enter Tryz.func46, Tryz.ntmps46
              go_upto_region 2 with fail
              rw [← HW0.out]
              go_wp2_with (first
                | (go_at_call 79; have HX := HO.out; (with_reducible refine HX.mono ?_); clear HX; rintro e w1 ⟨rfl, rfl⟩)
                | (go_at_call 78; have HX := H1.out; (with_reducible refine HX.mono ?_); clear HX; rintro e w2 ⟨rfl, hb⟩; have R2 := Lib.hid (R0.out.trans hb); have D2 := Lib.hid hb.2.2; obtain ⟨y0, y3⟩ := HC.out _ hb.2.2; clear hb x0 x1 x2 x3)
                | (go_at_call 41; have HX := H2.out _ R2.out.1; (with_reducible refine HX.mono ?_); clear HX; rintro e w3 ⟨rfl, hb⟩; have R3 := Lib.hid (R2.out.trans hb); obtain ⟨z0, z3⟩ := HC.out _ (D2.out.trans hb.2.2); clear hb y0 y3)
                | (go_at_call 78; have HX := H3.out _ _ R3.out (by have := HLn.out; simp only [List.length_append, List.length_cons, List.length_nil, list_size_]; omega); (with_reducible refine HX.mono ?_); clear HX; rintro e w4 ⟨rfl, hb⟩; have R4 := Lib.hid (R3.out.trans hb); clear hb))
              go_end0
              exact ⟨rfl, R4.out.of (by simp)⟩
          · rw [show (op.toList == oNum) = false from h0] at hlen ⊢
            simp only [Bool.false_eq_true, if_false] at hlen ⊢
            rw [show (op.toList == oName) = false from h1] at hlen ⊢
            simp only [Bool.false_eq_true, if_false] at hlen ⊢
            rw [show (op.toList == oAt) = false from h2] at hlen ⊢
            simp only [Bool.false_eq_true, if_false] at hlen ⊢
            rw [show (op.toList == oNeg) = false from h3] at hlen ⊢
            simp only [Bool.false_eq_true, if_false] at hlen ⊢
            rw [show (op.toList == oNot) = true from h4] at hlen ⊢
            simp only [if_true] at hlen ⊢
            simp only [List.length_append, List.length_cons, List.length_nil] at hlen
            have H1 := Lib.hid (texts1 ⟨#[33]⟩ [33] rfl R0.out.1 (by simp only [List.length_cons, List.length_nil]; omega))
            have H2 : Hid (∀ w1, RetWr b (acc ++ [33]) w w1 → Calls Tryz.prog 78 #[.pointer (some ⟨b, 0, none⟩), .slice A l.length cap, .int .i64 0] w1 fun e w' => e = .returned (.tuple #[]) ∧ RetWr b (acc ++ [33] ++ clos (tL l) 0) w1 w') := Lib.hid fun w1 h1 => HCl.out _ w1 0 (by omega) h1 (by simp only [List.length_append, List.length_cons, List.length_nil]; omega)
            go_enter Tryz.func46, Tryz.ntmps46
            go_upto_region 2 with fail
            rw [← HW0.out]
            go_wp2_with (first
              | (go_at_call 41; have HX := H1.out; (with_reducible refine HX.mono ?_); clear HX; rintro e w2 ⟨rfl, hb⟩; have R2 := Lib.hid (R0.out.trans hb); obtain ⟨y0, y3⟩ := HC.out _ hb.2.2; clear hb x0 x1 x2 x3)
              | (go_at_call 78; have HX := H2.out _ R2.out; (with_reducible refine HX.mono ?_); clear HX; rintro e w3 ⟨rfl, hb⟩; have R3 := Lib.hid (R2.out.trans hb); clear hb))
            go_end0
            exact ⟨rfl, R3.out.of (by simp)⟩
        · rw [show (op.toList == oNum) = false from h0] at hlen ⊢
          simp only [Bool.false_eq_true, if_false] at hlen ⊢
          rw [show (op.toList == oName) = false from h1] at hlen ⊢
          simp only [Bool.false_eq_true, if_false] at hlen ⊢
          rw [show (op.toList == oAt) = false from h2] at hlen ⊢
          simp only [Bool.false_eq_true, if_false] at hlen ⊢
          rw [show (op.toList == oNeg) = true from h3] at hlen ⊢
          simp only [if_true] at hlen ⊢
          simp only [List.length_append, List.length_cons, List.length_nil] at hlen
          have H1 := Lib.hid (texts1 ⟨#[45]⟩ [45] rfl R0.out.1 (by simp only [List.length_cons, List.length_nil]; omega))
          have H2 : Hid (∀ w1, RetWr b (acc ++ [45]) w w1 → Calls Tryz.prog 78 #[.pointer (some ⟨b, 0, none⟩), .slice A l.length cap, .int .i64 0] w1 fun e w' => e = .returned (.tuple #[]) ∧ RetWr b (acc ++ [45] ++ clos (tL l) 0) w1 w') := Lib.hid fun w1 h1 => HCl.out _ w1 0 (by omega) h1 (by simp only [List.length_append, List.length_cons, List.length_nil]; omega)
          go_enter Tryz.func46, Tryz.ntmps46
          go_upto_region 2 with fail
          rw [← HW0.out]
          go_wp2_with (first
            | (go_at_call 41; have HX := H1.out; (with_reducible refine HX.mono ?_); clear HX; rintro e w2 ⟨rfl, hb⟩; have R2 := Lib.hid (R0.out.trans hb); obtain ⟨y0, y3⟩ := HC.out _ hb.2.2; clear hb x0 x1 x2 x3)
            | (go_at_call 78; have HX := H2.out _ R2.out; (with_reducible refine HX.mono ?_); clear HX; rintro e w3 ⟨rfl, hb⟩; have R3 := Lib.hid (R2.out.trans hb); clear hb))
          go_end0
          exact ⟨rfl, R3.out.of (by simp)⟩
      · rw [show (op.toList == oNum) = false from h0] at hlen ⊢
        simp only [Bool.false_eq_true, if_false] at hlen ⊢
        rw [show (op.toList == oName) = false from h1] at hlen ⊢
        simp only [Bool.false_eq_true, if_false] at hlen ⊢
        rw [show (op.toList == oAt) = true from h2] at hlen ⊢
        simp only [if_true] at hlen ⊢
        have H1 := Lib.hid (HPl.out _ R0.out (by unfold placeF; exact hlen))
        go_enter Tryz.func46, Tryz.ntmps46
        go_upto_region 2 with fail
        rw [← HW0.out]
        go_wp2_with (go_at_call 77; have HX := H1.out; (with_reducible refine HX.mono ?_); clear HX; rintro e w2 ⟨rfl, hb⟩; have R2 := Lib.hid (R0.out.trans hb); clear hb)
        go_end0
        exact ⟨rfl, R2.out⟩
    · rw [show (op.toList == oNum) = false from h0] at hlen ⊢
      simp only [Bool.false_eq_true, if_false] at hlen ⊢
      rw [show (op.toList == oName) = true from h1] at hlen ⊢
      simp only [if_true] at hlen ⊢
      have H1 := Lib.hid (texts1 nm nm.data.toList rfl R0.out.1 hlen)
      go_enter Tryz.func46, Tryz.ntmps46
      go_upto_region 2 with fail
      rw [← HW0.out]
      go_wp2_with (go_at_call 41; have HX := H1.out; (with_reducible refine HX.mono ?_); clear HX; rintro e w2 ⟨rfl, hb⟩; have R2 := Lib.hid (R0.out.trans hb); clear hb)
      go_end0
      exact ⟨rfl, R2.out⟩
  · rw [show (op.toList == oNum) = true from h0] at hlen ⊢
    simp only [if_true] at hlen ⊢
    have HIt := Lib.hid (Tryz.strconv_Itoa k HI.out.1 HI.out.2 W0 (R0.out.tab HT.out).1)
    have H1 : Hid (∀ w1, Wr b acc w1 → _) := Lib.hid fun w1 h1 => texts1 ⟨(Lib.itoa k).toArray⟩ (Lib.itoa k) rfl h1 hlen
    go_enter Tryz.func46, Tryz.ntmps46
    go_upto_region 2 with fail
    rw [← HW0.out]
    go_wp2_with (first
      | (go_at_call 74; have HX := HIt.out; (with_reducible refine HX.mono ?_); clear HX; rintro e w1 ⟨rfl, kk, os, hw1⟩; have B1 : Hid (Below W0.heap.size W0 w1) := Lib.hid (by rw [hw1]; exact Lib.below_grow _ _ (Nat.le_refl _) _ _); have R1 := Lib.hid (R0.out.quiet B1.out); clear hw1)
      | (go_at_call 41; have HX := H1.out _ R1.out.1; (with_reducible refine HX.mono ?_); clear HX; rintro e w2 ⟨rfl, hb⟩; have R2 := Lib.hid (R1.out.trans hb); clear hb))
    go_end0
    exact ⟨rfl, R2.out⟩
/-- Any expression, however deep. -/
theorem exprW_any (n : Nat) : ExprW n ∧ PartW n ∧ ClosedW n ∧ PlaceW n := by
  induction n with
  | zero => exact ⟨fun b P acc l v op nm k a w h => h.elim, fun b P acc l v i w h => h.elim, fun b P acc l v i w h => h.elim, fun b P acc l v nm w h => h.elim⟩
  | succ n ih =>
    have h1 := part_step ih.1
    have h2 := closed_step h1
    have h3 := place_step h1
    exact ⟨expr_step h2 h3, h1, h2, h3⟩
end
end Go.Proofs.YteaongdlbleehaaGreatDoor
