/- The tree layer: a statement, as it is written; blocks. -/
import Derived.Test.YteaongdlbleehaaGreatDoorTrExprW
namespace Go.Proofs.YteaongdlbleehaaGreatDoor
open Go.RowKit
abbrev tB (l : List St) (d : Nat) : Bs := textB Lib.itoa l d
abbrev tS (x : St) (d : Nat) : Bs := textS Lib.itoa x d
theorem tS_form (x : St) (d : Nat) : tS x d = stmtF x.op x.nm (tL x.e) (tB x.A (d + 1)) (tB x.B (d + 1)) x.B.length d := by cases x; rfl
theorem tB_app (l r : List St) (d : Nat) : tB (l ++ r) d = tB l d ++ tB r d := by
  induction l with
  | nil => rfl
  | cons x l ih =>
    show ind d ++ textS Lib.itoa x d ++ [10] ++ tB (l ++ r) d = (ind d ++ textS Lib.itoa x d ++ [10] ++ tB l d) ++ tB r d
    rw [ih]; simp only [List.append_assoc]
theorem tB_take {l : List St} {k : Nat} {x : St} (h : l[k]? = some x) (d : Nat) : tB (l.take (k + 1)) d = tB (l.take k) d ++ (ind d ++ (tS x d ++ [10])) := by
  rw [take_one h, tB_app]
  congr 1
  show ind d ++ textS Lib.itoa x d ++ [10] ++ [] = _
  simp only [List.append_nil, List.append_assoc]
theorem tB_le {l : List St} {k : Nat} {x : St} (h : l[k]? = some x) (d : Nat) : (tB (l.take k) d).length + ((ind d).length + (tS x d).length + 1) ≤ (tB l d).length := by
  have h1 := congrArg List.length (tB_take h d)
  have h2 : (tB l d).length = (tB (l.take (k + 1)) d).length + (tB (l.drop (k + 1)) d).length := by rw [← List.length_append, ← tB_app, List.take_append_drop]
  simp only [List.length_append, List.length_cons, List.length_nil] at h1
  omega
/-- ends, so deep. -/
def EndsW (n : Nat) : Prop := ∀ (b : Nat) (P : Nat → Prop) (acc : Bs) (l : List Ex) (v : Value) (w : World), ExR P n w l v → (∀ x, P x → x < b) → Wr b acc w → TabB b w → acc.length + (endsF (tL l)).length ≤ 140737488355328 →
  Calls Tryz.prog 136 #[.pointer (some ⟨b, 0, none⟩), v] w fun e w' => e = .returned (.tuple #[]) ∧ RetWr b (acc ++ endsF (tL l)) w w'
def SimpleW (n : Nat) : Prop := ∀ (b : Nat) (P : Nat → Prop) (acc : Bs) (l : List Ex) (v : Value) (op nm : ByteArray) (A1 A2 : Option Addr) (n1 n2 c1 c2 : Nat) (a : Int) (w : World), ExR P n w l v → (∀ x, P x → x < b) → Wr b acc w → TabB b w → acc.length + (simpleF op nm (tL l)).length ≤ 140737488355328 →
  Calls Tryz.prog 106 #[.pointer (some ⟨b, 0, none⟩), stV op nm v (.slice A1 n1 c1) (.slice A2 n2 c2) a] w fun e w' => e = .returned (.tuple #[]) ∧ RetWr b (acc ++ simpleF op nm (tL l)) w w'
def BlockW (n : Nat) : Prop := ∀ (b : Nat) (P : Nat → Prop) (acc : Bs) (l : List St) (v : Value) (d : Nat) (w : World), StR P n w l v → (∀ x, P x → x < b) → Wr b acc w → TabB b w → d + depB l ≤ 1099511627776 → acc.length + (blockF d (tB l (d + 1))).length ≤ 140737488355328 →
  Calls Tryz.prog 44 #[.pointer (some ⟨b, 0, none⟩), v, .int .i64 (d : Int)] w fun e w' => e = .returned (.tuple #[]) ∧ RetWr b (acc ++ blockF d (tB l (d + 1))) w w'
def StmtW (n : Nat) : Prop := ∀ (b : Nat) (P : Nat → Prop) (acc : Bs) (l : List Ex) (LA LB : List St) (v vA vB : Value) (op nm : ByteArray) (a : Int) (d : Nat) (w : World), ExR P n w l v → StR P n w LA vA → StR P n w LB vB → (∀ x, P x → x < b) → Wr b acc w → TabB b w → d + max (depB LA) (depB LB) ≤ 1099511627776 → acc.length + (stmtF op nm (tL l) (tB LA (d + 1)) (tB LB (d + 1)) LB.length d).length ≤ 140737488355328 →
  Calls Tryz.prog 76 #[.pointer (some ⟨b, 0, none⟩), stV op nm v vA vB a, .int .i64 (d : Int)] w fun e w' => e = .returned (.tuple #[]) ∧ RetWr b (acc ++ stmtF op nm (tL l) (tB LA (d + 1)) (tB LB (d + 1)) LB.length d) w w'
theorem tL_len (l : List Ex) : (tL l).length = l.length := by
  induction l with
  | nil => rfl
  | cons x l ih => simp only [textL, List.length_cons, ih]
section
set_option maxHeartbeats 6400000 in
set_option maxRecDepth 100000 in
theorem ends_any (n : Nat) : EndsW n := by
  intro b P acc l v w h hP hw ht hlen
  have HW := Lib.hid hw
  have HPt : Hid (∀ acc' w1 (i : Nat), i ≤ 1 → RetWr b acc' w w1 → acc'.length + (part0 (tL l) i).length ≤ 140737488355328 → Calls Tryz.prog 105 #[.pointer (some ⟨b, 0, none⟩), v, .int .i64 (i : Int)] w1 fun e w' => e = .returned (.tuple #[]) ∧ RetWr b (acc' ++ part0 (tL l) i) w1 w') := Lib.hid fun acc' w1 i hi h1 h2 =>
    (exprW_any n).2.1 b P _ l v i w1 (h.below h1.2.1 hP) hP h1.1 (h1.tab ht) hi h2
  obtain ⟨A, cap, rfl, -, -⟩ := h.slice
  unfold endsF at hlen ⊢
  rw [tL_len] at hlen ⊢
  obtain ⟨m, hm⟩ : ∃ m, l.length = m := ⟨_, rfl⟩
  rw [hm] at hlen HPt ⊢
  clear h hw ht hm
  rcases Nat.eq_zero_or_pos m with h0 | h0
  · subst h0
    simp only [if_true, List.append_nil]
    clear hlen
    go_enter Tryz.func136, Tryz.ntmps136
    go_wp2
    exact bodyPost_ret (v := .tuple #[]) (by simp [results, Tryz.results136, go_sem]) rfl ⟨rfl, RetWr.refl HW.out⟩
  · rw [if_neg (by omega)] at hlen ⊢
    simp only [List.length_append, List.length_cons, List.length_nil] at hlen
    have g1 : ((m : Int) == 0) = false := by simp; omega
    have g2 : decide (m = 0) = false := decide_eq_false (by omega)
    have g3 : decide ((m : Int) = 0) = false := decide_eq_false (by omega)
    have HL := Lib.hid hlen
    have H1 := Lib.hid (texts1 ⟨#[40]⟩ [40] rfl HW.out (by simp only [List.length_cons, List.length_nil]; omega))
    have H2 : Hid (∀ w1, RetWr b (acc ++ [40]) w w1 → Calls Tryz.prog 105 #[.pointer (some ⟨b, 0, none⟩), .slice A m cap, .int .i64 0] w1 fun e w' => e = .returned (.tuple #[]) ∧ RetWr b (acc ++ [40] ++ part0 (tL l) 0) w1 w') := Lib.hid fun w1 h1 => HPt.out _ w1 0 (by omega) h1 (by simp only [List.length_append, List.length_cons, List.length_nil]; omega)
    have H3 : Hid (∀ w1, Wr b (acc ++ [40] ++ part0 (tL l) 0) w1 → _) := Lib.hid fun w1 h1 => texts1 ⟨#[44, 32]⟩ [44, 32] rfl h1 (by simp only [List.length_append, List.length_cons, List.length_nil]; omega)
    have H4 : Hid (∀ w1, RetWr b (acc ++ [40] ++ part0 (tL l) 0 ++ [44, 32]) w w1 → Calls Tryz.prog 105 #[.pointer (some ⟨b, 0, none⟩), .slice A m cap, .int .i64 1] w1 fun e w' => e = .returned (.tuple #[]) ∧ RetWr b (acc ++ [40] ++ part0 (tL l) 0 ++ [44, 32] ++ part0 (tL l) 1) w1 w') := Lib.hid fun w1 h1 => HPt.out _ w1 1 (by omega) h1 (by simp only [List.length_append, List.length_cons, List.length_nil]; omega)
    have H5 : Hid (∀ w1, Wr b (acc ++ [40] ++ part0 (tL l) 0 ++ [44, 32] ++ part0 (tL l) 1) w1 → _) := Lib.hid fun w1 h1 => texts1 ⟨#[41]⟩ [41] rfl h1 (by simp only [List.length_append, List.length_cons, List.length_nil]; omega)
    clear hlen h0
    go_enter Tryz.func136, Tryz.ntmps136
    go_wp2_with (first
      | (go_at_call 41; have HX := H1.out; (with_reducible refine HX.mono ?_); clear HX; rintro e w1 ⟨rfl, hb⟩; have R1 := Lib.hid hb; clear hb)
      | (go_at_call 105; have HX := H2.out _ R1.out; (with_reducible refine HX.mono ?_); clear HX; rintro e w2 ⟨rfl, hb⟩; have R2 := Lib.hid (R1.out.trans hb); clear hb)
      | (go_at_call 41; have HX := H3.out _ R2.out.1; (with_reducible refine HX.mono ?_); clear HX; rintro e w3 ⟨rfl, hb⟩; have R3 := Lib.hid (R2.out.trans hb); clear hb)
      | (go_at_call 105; have HX := H4.out _ R3.out; (with_reducible refine HX.mono ?_); clear HX; rintro e w4 ⟨rfl, hb⟩; have R4 := Lib.hid (R3.out.trans hb); clear hb)
      | (go_at_call 41; have HX := H5.out _ R4.out.1; (with_reducible refine HX.mono ?_); clear HX; rintro e w5 ⟨rfl, hb⟩; have R5 := Lib.hid (R4.out.trans hb); clear hb))
    go_end0
    exact ⟨rfl, R5.out.of (by simp)⟩
set_option maxHeartbeats 6400000 in
set_option maxRecDepth 100000 in
theorem simple_any (n : Nat) : SimpleW n := by
  intro b P acc l v op nm A1 A2 n1 n2 c1 c2 a w h hP hw ht hlen
  have HPt : Hid (∀ acc' w1 (i : Nat), i ≤ 1 → RetWr b acc' w w1 → acc'.length + (part0 (tL l) i).length ≤ 140737488355328 → Calls Tryz.prog 105 #[.pointer (some ⟨b, 0, none⟩), v, .int .i64 (i : Int)] w1 fun e w' => e = .returned (.tuple #[]) ∧ RetWr b (acc' ++ part0 (tL l) i) w1 w') := Lib.hid fun acc' w1 i hi h1 h2 =>
    (exprW_any n).2.1 b P _ l v i w1 (h.below h1.2.1 hP) hP h1.1 (h1.tab ht) hi h2
  have HPl : Hid (∀ acc' w1, RetWr b acc' w w1 → acc'.length + (placeF nm (tL l)).length ≤ 140737488355328 → Calls Tryz.prog 77 #[.pointer (some ⟨b, 0, none⟩), .string nm, v] w1 fun e w' => e = .returned (.tuple #[]) ∧ RetWr b (acc' ++ placeF nm (tL l)) w1 w') := Lib.hid fun acc' w1 h1 h2 =>
    (exprW_any n).2.2.2 b P _ l v nm w1 (h.below h1.2.1 hP) hP h1.1 (h1.tab ht) h2
  have HEn : Hid (∀ acc' w1, RetWr b acc' w w1 → acc'.length + (endsF (tL l)).length ≤ 140737488355328 → Calls Tryz.prog 136 #[.pointer (some ⟨b, 0, none⟩), v] w1 fun e w' => e = .returned (.tuple #[]) ∧ RetWr b (acc' ++ endsF (tL l)) w1 w') := Lib.hid fun acc' w1 h1 h2 =>
    ends_any n b P _ l v w1 (h.below h1.2.1 hP) hP h1.1 (h1.tab ht) h2
  obtain ⟨A, cap, rfl, -, -⟩ := h.slice
  obtain ⟨W0, hW0⟩ : ∃ W0, W0 = w.alloc (.cells #[.string op, .string nm, .slice A l.length cap, .slice A1 n1 c1, .slice A2 n2 c2, .int .i64 a] 116) := ⟨_, rfl⟩
  have R0 : Hid (RetWr b acc w W0) := Lib.hid (by rw [hW0]; exact (RetWr.refl hw).alloc _)
  have HK : Hid (Blk W0 w.heap.size 116 #[.string op, .string nm, .slice A l.length cap, .slice A1 n1 c1, .slice A2 n2 c2, .int .i64 a]) := Lib.hid (by rw [hW0]; exact Blk.new w _ _)
  have HW0 := Lib.hid hW0
  have HNe : Hid (w.heap.size ≠ b) := Lib.hid (Nat.ne_of_gt hw.lt)
  have HC : Hid (∀ w1, Kept b W0 w1 → w1.cell? ⟨w.heap.size, 2, none⟩ = some (.slice A l.length cap)) := Lib.hid fun w1 hk1 => (HK.out.keptW hk1 HNe.out (by decide)).cell 2
  have x0 := HK.out.cell 0
  have x1 := HK.out.cell 1
  have x2 := HK.out.cell 2
  simp at x0 x1 x2
  clear h hw ht hW0
  unfold simpleF at hlen ⊢
  cases h0 : (op.toList == [115, 101, 116])
  · cases h1 : (op.toList == [112, 117, 116])
    · cases h2 : (op.toList == [105, 110, 112, 117, 116])
      · cases h3 : (op.toList == [97, 115, 115, 101, 114, 116])
        · cases h4 : (op.toList == [97, 115, 115, 117, 109, 101])
          · cases h5 : (op.toList == [99, 97, 108, 108])
            · rw [show (op.toList == sSet) = false from h0] at hlen ⊢
              simp only [Bool.false_eq_true, if_false] at hlen ⊢
              rw [show (op.toList == sPut) = false from h1] at hlen ⊢
              simp only [Bool.false_eq_true, if_false] at hlen ⊢
              rw [show (op.toList == sInput) = false from h2] at hlen ⊢
              simp only [Bool.false_eq_true, if_false] at hlen ⊢
              rw [show (op.toList == sAssert) = false from h3, show (op.toList == sAssume) = false from h4] at hlen ⊢
              simp only [Bool.or_false, Bool.false_eq_true, if_false] at hlen ⊢
              rw [show (op.toList == sCall) = false from h5] at hlen ⊢
              simp only [Bool.false_eq_true, if_false] at hlen ⊢
              have H1 := Lib.hid (texts1 op op.data.toList rfl R0.out.1 hlen)
              go_enter Tryz.func106, Tryz.ntmps106
              go_upto_region 1 with fail
              rw [← HW0.out]
              go_wp2_with (go_at_call 41; have HX := H1.out; (with_reducible refine HX.mono ?_); clear HX; rintro e w1 ⟨rfl, hb⟩; have R1 := Lib.hid (R0.out.trans hb); clear hb)
              go_end0
              exact ⟨rfl, R1.out⟩
            · rw [show (op.toList == sSet) = false from h0] at hlen ⊢
              simp only [Bool.false_eq_true, if_false] at hlen ⊢
              rw [show (op.toList == sPut) = false from h1] at hlen ⊢
              simp only [Bool.false_eq_true, if_false] at hlen ⊢
              rw [show (op.toList == sInput) = false from h2] at hlen ⊢
              simp only [Bool.false_eq_true, if_false] at hlen ⊢
              rw [show (op.toList == sAssert) = false from h3, show (op.toList == sAssume) = false from h4] at hlen ⊢
              simp only [Bool.or_false, Bool.false_eq_true, if_false] at hlen ⊢
              rw [show (op.toList == sCall) = true from h5] at hlen ⊢
              simp only [if_true] at hlen ⊢
              simp only [List.length_append, List.length_cons, List.length_nil, list_size_] at hlen
              have H1 := Lib.hid (texts2 ⟨#[99, 97, 108, 108, 32]⟩ nm [99, 97, 108, 108, 32] nm.data.toList rfl rfl R0.out.1 (by simp only [List.length_cons, List.length_nil, list_size_]; omega))
              go_enter Tryz.func106, Tryz.ntmps106
              go_upto_region 1 with fail
              rw [← HW0.out]
              go_wp2_with (go_at_call 41; have HX := H1.out; (with_reducible refine HX.mono ?_); clear HX; rintro e w1 ⟨rfl, hb⟩; have R1 := Lib.hid (R0.out.trans hb); clear hb)
              go_end0
              exact ⟨rfl, R1.out⟩
          · rw [show (op.toList == sSet) = false from h0] at hlen ⊢
            simp only [Bool.false_eq_true, if_false] at hlen ⊢
            rw [show (op.toList == sPut) = false from h1] at hlen ⊢
            simp only [Bool.false_eq_true, if_false] at hlen ⊢
            rw [show (op.toList == sInput) = false from h2] at hlen ⊢
            simp only [Bool.false_eq_true, if_false] at hlen ⊢
            rw [show (op.toList == sAssert) = false from h3, show (op.toList == sAssume) = true from h4] at hlen ⊢
            simp only [Bool.or_true, if_true] at hlen ⊢
            simp only [List.length_append, List.length_cons, List.length_nil, list_size_] at hlen
            have H1 := Lib.hid (texts2 op ⟨#[32]⟩ op.data.toList [32] rfl rfl R0.out.1 (by simp only [List.length_cons, List.length_nil, list_size_]; omega))
            have H2 : Hid (∀ w1, RetWr b (acc ++ (op.data.toList ++ [32])) w w1 → Calls Tryz.prog 105 #[.pointer (some ⟨b, 0, none⟩), .slice A l.length cap, .int .i64 0] w1 fun e w' => e = .returned (.tuple #[]) ∧ RetWr b (acc ++ (op.data.toList ++ [32]) ++ part0 (tL l) 0) w1 w') := Lib.hid fun w1 h1 => HPt.out _ w1 0 (by omega) h1 (by simp only [List.length_append, List.length_cons, List.length_nil, list_size_]; omega)
            go_enter Tryz.func106, Tryz.ntmps106
            go_upto_region 1 with fail
            rw [← HW0.out]
            go_wp2_with (first
              | (go_at_call 41; have HX := H1.out; (with_reducible refine HX.mono ?_); clear HX; rintro e w1 ⟨rfl, hb⟩; have R1 := Lib.hid (R0.out.trans hb); have y2 := HC.out _ hb.2.2; clear hb)
              | (go_at_call 105; have HX := H2.out _ R1.out; (with_reducible refine HX.mono ?_); clear HX; rintro e w2 ⟨rfl, hb⟩; have R2 := Lib.hid (R1.out.trans hb); clear hb))
            go_end0
            exact ⟨rfl, R2.out.of (by simp)⟩
        · rw [show (op.toList == sSet) = false from h0] at hlen ⊢
          simp only [Bool.false_eq_true, if_false] at hlen ⊢
          rw [show (op.toList == sPut) = false from h1] at hlen ⊢
          simp only [Bool.false_eq_true, if_false] at hlen ⊢
          rw [show (op.toList == sInput) = false from h2] at hlen ⊢
          simp only [Bool.false_eq_true, if_false] at hlen ⊢
          rw [show (op.toList == sAssert) = true from h3] at hlen ⊢
          simp only [Bool.true_or, if_true] at hlen ⊢
          simp only [List.length_append, List.length_cons, List.length_nil, list_size_] at hlen
          have H1 := Lib.hid (texts2 op ⟨#[32]⟩ op.data.toList [32] rfl rfl R0.out.1 (by simp only [List.length_cons, List.length_nil, list_size_]; omega))
          have H2 : Hid (∀ w1, RetWr b (acc ++ (op.data.toList ++ [32])) w w1 → Calls Tryz.prog 105 #[.pointer (some ⟨b, 0, none⟩), .slice A l.length cap, .int .i64 0] w1 fun e w' => e = .returned (.tuple #[]) ∧ RetWr b (acc ++ (op.data.toList ++ [32]) ++ part0 (tL l) 0) w1 w') := Lib.hid fun w1 h1 => HPt.out _ w1 0 (by omega) h1 (by simp only [List.length_append, List.length_cons, List.length_nil, list_size_]; omega)
          go_enter Tryz.func106, Tryz.ntmps106
          go_upto_region 1 with fail
          rw [← HW0.out]
          go_wp2_with (first
            | (go_at_call 41; have HX := H1.out; (with_reducible refine HX.mono ?_); clear HX; rintro e w1 ⟨rfl, hb⟩; have R1 := Lib.hid (R0.out.trans hb); have y2 := HC.out _ hb.2.2; clear hb)
            | (go_at_call 105; have HX := H2.out _ R1.out; (with_reducible refine HX.mono ?_); clear HX; rintro e w2 ⟨rfl, hb⟩; have R2 := Lib.hid (R1.out.trans hb); clear hb))
          go_end0
          exact ⟨rfl, R2.out.of (by simp)⟩
      · rw [show (op.toList == sSet) = false from h0] at hlen ⊢
        simp only [Bool.false_eq_true, if_false] at hlen ⊢
        rw [show (op.toList == sPut) = false from h1] at hlen ⊢
        simp only [Bool.false_eq_true, if_false] at hlen ⊢
        rw [show (op.toList == sInput) = true from h2] at hlen ⊢
        simp only [if_true] at hlen ⊢
        simp only [List.length_append, List.length_cons, List.length_nil, list_size_] at hlen
        have H1 := Lib.hid (texts2 nm ⟨#[32, 61, 32, 105, 110, 112, 117, 116]⟩ nm.data.toList [32, 61, 32, 105, 110, 112, 117, 116] rfl rfl R0.out.1 (by simp only [List.length_cons, List.length_nil, list_size_]; omega))
        have H2 : Hid (∀ w1, RetWr b (acc ++ (nm.data.toList ++ [32, 61, 32, 105, 110, 112, 117, 116])) w w1 → _) := Lib.hid fun w1 h1 => HEn.out _ w1 h1 (by simp only [List.length_append, List.length_cons, List.length_nil, list_size_]; omega)
        go_enter Tryz.func106, Tryz.ntmps106
        go_upto_region 1 with fail
        rw [← HW0.out]
        go_wp2_with (first
          | (go_at_call 41; have HX := H1.out; (with_reducible refine HX.mono ?_); clear HX; rintro e w1 ⟨rfl, hb⟩; have R1 := Lib.hid (R0.out.trans hb); have y2 := HC.out _ hb.2.2; clear hb)
          | (go_at_call 136; have HX := H2.out _ R1.out; (with_reducible refine HX.mono ?_); clear HX; rintro e w2 ⟨rfl, hb⟩; have R2 := Lib.hid (R1.out.trans hb); clear hb))
        go_end0
        exact ⟨rfl, R2.out.of (by simp)⟩
    · rw [show (op.toList == sSet) = false from h0] at hlen ⊢
      simp only [Bool.false_eq_true, if_false] at hlen ⊢
      rw [show (op.toList == sPut) = true from h1] at hlen ⊢
      simp only [if_true] at hlen ⊢
      simp only [List.length_append, List.length_cons, List.length_nil] at hlen
      have H1 := Lib.hid (HPl.out acc W0 R0.out (by omega))
      have H2 : Hid (∀ w1, Wr b (acc ++ placeF nm (tL l)) w1 → _) := Lib.hid fun w1 h1 => texts1 ⟨#[32, 61, 32]⟩ [32, 61, 32] rfl h1 (by simp only [List.length_append, List.length_cons, List.length_nil]; omega)
      have H3 : Hid (∀ w1, RetWr b (acc ++ placeF nm (tL l) ++ [32, 61, 32]) w w1 → Calls Tryz.prog 105 #[.pointer (some ⟨b, 0, none⟩), .slice A l.length cap, .int .i64 1] w1 fun e w' => e = .returned (.tuple #[]) ∧ RetWr b (acc ++ placeF nm (tL l) ++ [32, 61, 32] ++ part0 (tL l) 1) w1 w') := Lib.hid fun w1 h1 => HPt.out _ w1 1 (by omega) h1 (by simp only [List.length_append, List.length_cons, List.length_nil]; omega)
      go_enter Tryz.func106, Tryz.ntmps106
      go_upto_region 1 with fail
      rw [← HW0.out]
      go_wp2_with (first
        | (go_at_call 77; have HX := H1.out; (with_reducible refine HX.mono ?_); clear HX; rintro e w1 ⟨rfl, hb⟩; have R1 := Lib.hid (R0.out.trans hb); have D1 := Lib.hid hb.2.2; have y2 := HC.out _ hb.2.2; clear hb)
        | (go_at_call 41; have HX := H2.out _ R1.out.1; (with_reducible refine HX.mono ?_); clear HX; rintro e w2 ⟨rfl, hb⟩; have R2 := Lib.hid (R1.out.trans hb); have z2 := HC.out _ (D1.out.trans hb.2.2); clear y2; clear hb)
        | (go_at_call 105; have HX := H3.out _ R2.out; (with_reducible refine HX.mono ?_); clear HX; rintro e w3 ⟨rfl, hb⟩; have R3 := Lib.hid (R2.out.trans hb); clear hb))
      go_end0
      exact ⟨rfl, R3.out.of (by simp)⟩
  · rw [show (op.toList == sSet) = true from h0] at hlen ⊢
    simp only [if_true] at hlen ⊢
    simp only [List.length_append, List.length_cons, List.length_nil, list_size_] at hlen
    have H1 := Lib.hid (texts2 nm ⟨#[32, 61, 32]⟩ nm.data.toList [32, 61, 32] rfl rfl R0.out.1 (by simp only [List.length_cons, List.length_nil, list_size_]; omega))
    have H2 : Hid (∀ w1, RetWr b (acc ++ (nm.data.toList ++ [32, 61, 32])) w w1 → Calls Tryz.prog 105 #[.pointer (some ⟨b, 0, none⟩), .slice A l.length cap, .int .i64 0] w1 fun e w' => e = .returned (.tuple #[]) ∧ RetWr b (acc ++ (nm.data.toList ++ [32, 61, 32]) ++ part0 (tL l) 0) w1 w') := Lib.hid fun w1 h1 => HPt.out _ w1 0 (by omega) h1 (by simp only [List.length_append, List.length_cons, List.length_nil, list_size_]; omega)
    go_enter Tryz.func106, Tryz.ntmps106
    go_upto_region 1 with fail
    rw [← HW0.out]
    go_wp2_with (first
      | (go_at_call 41; have HX := H1.out; (with_reducible refine HX.mono ?_); clear HX; rintro e w1 ⟨rfl, hb⟩; have R1 := Lib.hid (R0.out.trans hb); have y2 := HC.out _ hb.2.2; clear hb)
      | (go_at_call 105; have HX := H2.out _ R1.out; (with_reducible refine HX.mono ?_); clear HX; rintro e w2 ⟨rfl, hb⟩; have R2 := Lib.hid (R1.out.trans hb); clear hb))
    go_end0
    exact ⟨rfl, R2.out.of (by simp)⟩
set_option maxHeartbeats 6400000 in
set_option maxRecDepth 100000 in
theorem stmt_step {n : Nat} (ih : BlockW n) : StmtW n := by
  intro b P acc l LA LB v vA vB op nm a d w h hA hB hP hw ht hd hlen
  have HPt : Hid (∀ acc' w1 (i : Nat), i ≤ 1 → RetWr b acc' w w1 → acc'.length + (part0 (tL l) i).length ≤ 140737488355328 → Calls Tryz.prog 105 #[.pointer (some ⟨b, 0, none⟩), v, .int .i64 (i : Int)] w1 fun e w' => e = .returned (.tuple #[]) ∧ RetWr b (acc' ++ part0 (tL l) i) w1 w') := Lib.hid fun acc' w1 i hi h1 h2 =>
    (exprW_any n).2.1 b P _ l v i w1 (h.below h1.2.1 hP) hP h1.1 (h1.tab ht) hi h2
  have HBa : Hid (∀ acc' w1, RetWr b acc' w w1 → acc'.length + (blockF d (tB LA (d + 1))).length ≤ 140737488355328 → Calls Tryz.prog 44 #[.pointer (some ⟨b, 0, none⟩), vA, .int .i64 (d : Int)] w1 fun e w' => e = .returned (.tuple #[]) ∧ RetWr b (acc' ++ blockF d (tB LA (d + 1))) w1 w') := Lib.hid fun acc' w1 h1 h2 =>
    ih b P _ LA vA d w1 (hA.below h1.2.1 hP) hP h1.1 (h1.tab ht) (by omega) h2
  have HBb : Hid (∀ acc' w1, RetWr b acc' w w1 → acc'.length + (blockF d (tB LB (d + 1))).length ≤ 140737488355328 → Calls Tryz.prog 44 #[.pointer (some ⟨b, 0, none⟩), vB, .int .i64 (d : Int)] w1 fun e w' => e = .returned (.tuple #[]) ∧ RetWr b (acc' ++ blockF d (tB LB (d + 1))) w1 w') := Lib.hid fun acc' w1 h1 h2 =>
    ih b P _ LB vB d w1 (hB.below h1.2.1 hP) hP h1.1 (h1.tab ht) (by omega) h2
  obtain ⟨A, cap, rfl, -, -⟩ := h.slice
  obtain ⟨A1, c1, rfl, -, -⟩ := hA.slice
  obtain ⟨A2, c2, rfl, hcb, hlb⟩ := hB.slice
  have HSi : Hid (∀ w1, RetWr b acc w w1 → acc.length + (simpleF op nm (tL l)).length ≤ 140737488355328 → Calls Tryz.prog 106 #[.pointer (some ⟨b, 0, none⟩), stV op nm (.slice A l.length cap) (.slice A1 LA.length c1) (.slice A2 LB.length c2) a] w1 fun e w' => e = .returned (.tuple #[]) ∧ RetWr b (acc ++ simpleF op nm (tL l)) w1 w') := Lib.hid fun w1 h1 h2 =>
    simple_any n b P _ l _ op nm _ _ _ _ _ _ a w1 (h.below h1.2.1 hP) hP h1.1 (h1.tab ht) h2
  obtain ⟨W0, hW0⟩ : ∃ W0, W0 = w.alloc (.cells #[.string op, .string nm, .slice A l.length cap, .slice A1 LA.length c1, .slice A2 LB.length c2, .int .i64 a] 116) := ⟨_, rfl⟩
  have R0 : Hid (RetWr b acc w W0) := Lib.hid (by rw [hW0]; exact (RetWr.refl hw).alloc _)
  have HK : Hid (Blk W0 w.heap.size 116 #[.string op, .string nm, .slice A l.length cap, .slice A1 LA.length c1, .slice A2 LB.length c2, .int .i64 a]) := Lib.hid (by rw [hW0]; exact Blk.new w _ _)
  have HW0 := Lib.hid hW0
  have HNe : Hid (w.heap.size ≠ b) := Lib.hid (Nat.ne_of_gt hw.lt)
  have HC : Hid (∀ w1, Kept b W0 w1 → w1.cell? ⟨w.heap.size, 0, none⟩ = some (.string op) ∧ w1.cell? ⟨w.heap.size, 2, none⟩ = some (.slice A l.length cap) ∧ w1.cell? ⟨w.heap.size, 3, none⟩ = some (.slice A1 LA.length c1) ∧ w1.cell? ⟨w.heap.size, 4, none⟩ = some (.slice A2 LB.length c2)) := Lib.hid fun w1 hk1 => ⟨(HK.out.keptW hk1 HNe.out (by decide)).cell 0, (HK.out.keptW hk1 HNe.out (by decide)).cell 2, (HK.out.keptW hk1 HNe.out (by decide)).cell 3, (HK.out.keptW hk1 HNe.out (by decide)).cell 4⟩
  have x0 := HK.out.cell 0
  have x1 := HK.out.cell 1
  have x2 := HK.out.cell 2
  have x3 := HK.out.cell 3
  have x4 := HK.out.cell 4
  have x5 := HK.out.cell 5
  simp at x0 x1 x2 x3 x4 x5
  have hlb2 : LB.length ≤ 140737488355328 := by omega
  clear h hA hB hw ht hW0 hd hlb hcb
  unfold stmtF at hlen ⊢
  generalize hRA : tB LA (d + 1) = ra at *
  generalize hRB : tB LB (d + 1) = rb at *
  generalize hMB : LB.length = mb at *
  clear hRA hRB hMB
  cases h0 : (op.toList == [105, 102])
  · cases h1 : (op.toList == [119, 104, 105, 108, 101])
    · rw [show (op.toList == sIf) = false from h0, show (op.toList == sWhile) = false from h1] at hlen ⊢
      simp only [Bool.or_false, Bool.false_eq_true, if_false] at hlen ⊢
      simp only [List.length_append, List.length_cons, List.length_nil] at hlen
      have H1 := Lib.hid (HSi.out W0 R0.out (by omega))
      have H2 : Hid (∀ w1, Wr b (acc ++ simpleF op nm (tL l)) w1 → _) := Lib.hid fun w1 h1 => texts1 ⟨#[59]⟩ [59] rfl h1 (by simp only [List.length_append, List.length_cons, List.length_nil]; omega)
      go_enter Tryz.func76, Tryz.ntmps76
      go_upto_region 1 with fail
      rw [← HW0.out]
      go_wp2_with (first
        | (go_at_call 106; have HX := H1.out; (with_reducible refine HX.mono ?_); clear HX; rintro e w1 ⟨rfl, hb⟩; have R1 := Lib.hid (R0.out.trans hb); clear hb)
        | (go_at_call 41; have HX := H2.out _ R1.out.1; (with_reducible refine HX.mono ?_); clear HX; rintro e w2 ⟨rfl, hb⟩; have R2 := Lib.hid (R1.out.trans hb); clear hb))
      go_end0
      exact ⟨rfl, R2.out.of (by simp)⟩
    · rw [show (op.toList == sIf) = false from h0, show (op.toList == sWhile) = true from h1] at hlen ⊢
      simp only [Bool.or_true, if_true, Bool.false_and, Bool.false_eq_true, if_false, List.append_nil] at hlen ⊢
      simp only [List.length_append, List.length_cons, List.length_nil, list_size_] at hlen
      have H1 := Lib.hid (texts2 op ⟨#[32]⟩ op.data.toList [32] rfl rfl R0.out.1 (by simp only [List.length_cons, List.length_nil, list_size_]; omega))
      have H2 : Hid (∀ w1, RetWr b (acc ++ (op.data.toList ++ [32])) w w1 → Calls Tryz.prog 105 #[.pointer (some ⟨b, 0, none⟩), .slice A l.length cap, .int .i64 0] w1 fun e w' => e = .returned (.tuple #[]) ∧ RetWr b (acc ++ (op.data.toList ++ [32]) ++ part0 (tL l) 0) w1 w') := Lib.hid fun w1 h1 => HPt.out _ w1 0 (by omega) h1 (by simp only [List.length_append, List.length_cons, List.length_nil, list_size_]; omega)
      have H3 : Hid (∀ w1, RetWr b (acc ++ (op.data.toList ++ [32]) ++ part0 (tL l) 0) w w1 → _) := Lib.hid fun w1 h1 => HBa.out _ w1 h1 (by simp only [List.length_append, List.length_cons, List.length_nil, list_size_]; omega)
      go_enter Tryz.func76, Tryz.ntmps76
      go_upto_region 1 with fail
      rw [← HW0.out]
      go_wp2_with (first
        | (go_at_call 41; have HX := H1.out; (with_reducible refine HX.mono ?_); clear HX; rintro e w1 ⟨rfl, hb⟩; have R1 := Lib.hid (R0.out.trans hb); have D1 := Lib.hid hb.2.2; obtain ⟨y0, y2, y3, y4⟩ := HC.out _ hb.2.2; clear hb)
        | (go_at_call 105; have HX := H2.out _ R1.out; (with_reducible refine HX.mono ?_); clear HX; rintro e w2 ⟨rfl, hb⟩; have R2 := Lib.hid (R1.out.trans hb); have D2 := Lib.hid (D1.out.trans hb.2.2); obtain ⟨z0, z2, z3, z4⟩ := HC.out _ (D1.out.trans hb.2.2); clear y0 y2 y3 y4; clear hb)
        | (go_at_call 44; have HX := H3.out _ R2.out; (with_reducible refine HX.mono ?_); clear HX; rintro e w3 ⟨rfl, hb⟩; have R3 := Lib.hid (R2.out.trans hb); have D3 := Lib.hid (D2.out.trans hb.2.2); obtain ⟨s0, s2, s3, s4⟩ := HC.out _ (D2.out.trans hb.2.2); clear z0 z2 z3 z4; clear hb))
      go_end0
      exact ⟨rfl, R3.out.of (by simp)⟩
  · by_cases hm : 0 < mb
    · rw [show (op.toList == sIf) = true from h0] at hlen ⊢
      simp only [Bool.true_or, if_true, Bool.true_and] at hlen ⊢
      have hmb : decide (0 < mb) = true := decide_eq_true hm
      rw [hmb] at hlen ⊢
      simp only [if_true] at hlen ⊢
      have g1 : decide (0 < (mb : Int)) = true := decide_eq_true (by omega)
      simp only [List.length_append, List.length_cons, List.length_nil, list_size_] at hlen
      have H1 := Lib.hid (texts2 op ⟨#[32]⟩ op.data.toList [32] rfl rfl R0.out.1 (by simp only [List.length_cons, List.length_nil, list_size_]; omega))
      have H2 : Hid (∀ w1, RetWr b (acc ++ (op.data.toList ++ [32])) w w1 → Calls Tryz.prog 105 #[.pointer (some ⟨b, 0, none⟩), .slice A l.length cap, .int .i64 0] w1 fun e w' => e = .returned (.tuple #[]) ∧ RetWr b (acc ++ (op.data.toList ++ [32]) ++ part0 (tL l) 0) w1 w') := Lib.hid fun w1 h1 => HPt.out _ w1 0 (by omega) h1 (by simp only [List.length_append, List.length_cons, List.length_nil, list_size_]; omega)
      have H3 : Hid (∀ w1, RetWr b (acc ++ (op.data.toList ++ [32]) ++ part0 (tL l) 0) w w1 → _) := Lib.hid fun w1 h1 => HBa.out _ w1 h1 (by simp only [List.length_append, List.length_cons, List.length_nil, list_size_]; omega)
      have H4 : Hid (∀ w1, Wr b (acc ++ (op.data.toList ++ [32]) ++ part0 (tL l) 0 ++ blockF d ra) w1 → _) := Lib.hid fun w1 h1 => texts1 ⟨#[32, 101, 108, 115, 101]⟩ [32, 101, 108, 115, 101] rfl h1 (by simp only [List.length_append, List.length_cons, List.length_nil, list_size_]; omega)
      have H5 : Hid (∀ w1, RetWr b (acc ++ (op.data.toList ++ [32]) ++ part0 (tL l) 0 ++ blockF d ra ++ [32, 101, 108, 115, 101]) w w1 → _) := Lib.hid fun w1 h1 => HBb.out _ w1 h1 (by simp only [List.length_append, List.length_cons, List.length_nil, list_size_]; omega)
      go_enter Tryz.func76, Tryz.ntmps76
      go_upto_region 1 with fail
      rw [← HW0.out]
      go_wp2_with (first
        | (go_at_call 41; have HX := H1.out; (with_reducible refine HX.mono ?_); clear HX; rintro e w1 ⟨rfl, hb⟩; have R1 := Lib.hid (R0.out.trans hb); have D1 := Lib.hid hb.2.2; obtain ⟨y0, y2, y3, y4⟩ := HC.out _ hb.2.2; clear hb)
        | (go_at_call 105; have HX := H2.out _ R1.out; (with_reducible refine HX.mono ?_); clear HX; rintro e w2 ⟨rfl, hb⟩; have R2 := Lib.hid (R1.out.trans hb); have D2 := Lib.hid (D1.out.trans hb.2.2); obtain ⟨z0, z2, z3, z4⟩ := HC.out _ (D1.out.trans hb.2.2); clear y0 y2 y3 y4; clear hb)
        | (go_at_call 44; have HX := H3.out _ R2.out; (with_reducible refine HX.mono ?_); clear HX; rintro e w3 ⟨rfl, hb⟩; have R3 := Lib.hid (R2.out.trans hb); have D3 := Lib.hid (D2.out.trans hb.2.2); obtain ⟨s0, s2, s3, s4⟩ := HC.out _ (D2.out.trans hb.2.2); clear z0 z2 z3 z4; clear hb)
        | (go_at_call 41; have HX := H4.out _ R3.out.1; (with_reducible refine HX.mono ?_); clear HX; rintro e w4 ⟨rfl, hb⟩; have R4 := Lib.hid (R3.out.trans hb); obtain ⟨p0, p2, p3, p4⟩ := HC.out _ (D3.out.trans hb.2.2); clear s0 s2 s3 s4; clear hb)
        | (go_at_call 44; have HX := H5.out _ R4.out; (with_reducible refine HX.mono ?_); clear HX; rintro e w5 ⟨rfl, hb⟩; have R5 := Lib.hid (R4.out.trans hb); clear hb))
      go_end0
      exact ⟨rfl, R5.out.of (by simp)⟩
    · rw [show (op.toList == sIf) = true from h0] at hlen ⊢
      simp only [Bool.true_or, if_true, Bool.true_and] at hlen ⊢
      have hmb : decide (0 < mb) = false := decide_eq_false hm
      rw [hmb] at hlen ⊢
      simp only [Bool.false_eq_true, if_false, List.append_nil] at hlen ⊢
      have g1 : decide (0 < (mb : Int)) = false := decide_eq_false (by omega)
      simp only [List.length_append, List.length_cons, List.length_nil, list_size_] at hlen
      have H1 := Lib.hid (texts2 op ⟨#[32]⟩ op.data.toList [32] rfl rfl R0.out.1 (by simp only [List.length_cons, List.length_nil, list_size_]; omega))
      have H2 : Hid (∀ w1, RetWr b (acc ++ (op.data.toList ++ [32])) w w1 → Calls Tryz.prog 105 #[.pointer (some ⟨b, 0, none⟩), .slice A l.length cap, .int .i64 0] w1 fun e w' => e = .returned (.tuple #[]) ∧ RetWr b (acc ++ (op.data.toList ++ [32]) ++ part0 (tL l) 0) w1 w') := Lib.hid fun w1 h1 => HPt.out _ w1 0 (by omega) h1 (by simp only [List.length_append, List.length_cons, List.length_nil, list_size_]; omega)
      have H3 : Hid (∀ w1, RetWr b (acc ++ (op.data.toList ++ [32]) ++ part0 (tL l) 0) w w1 → _) := Lib.hid fun w1 h1 => HBa.out _ w1 h1 (by simp only [List.length_append, List.length_cons, List.length_nil, list_size_]; omega)
      go_enter Tryz.func76, Tryz.ntmps76
      go_upto_region 1 with fail
      rw [← HW0.out]
      go_wp2_with (first
        | (go_at_call 41; have HX := H1.out; (with_reducible refine HX.mono ?_); clear HX; rintro e w1 ⟨rfl, hb⟩; have R1 := Lib.hid (R0.out.trans hb); have D1 := Lib.hid hb.2.2; obtain ⟨y0, y2, y3, y4⟩ := HC.out _ hb.2.2; clear hb)
        | (go_at_call 105; have HX := H2.out _ R1.out; (with_reducible refine HX.mono ?_); clear HX; rintro e w2 ⟨rfl, hb⟩; have R2 := Lib.hid (R1.out.trans hb); have D2 := Lib.hid (D1.out.trans hb.2.2); obtain ⟨z0, z2, z3, z4⟩ := HC.out _ (D1.out.trans hb.2.2); clear y0 y2 y3 y4; clear hb)
        | (go_at_call 44; have HX := H3.out _ R2.out; (with_reducible refine HX.mono ?_); clear HX; rintro e w3 ⟨rfl, hb⟩; have R3 := Lib.hid (R2.out.trans hb); have D3 := Lib.hid (D2.out.trans hb.2.2); obtain ⟨s0, s2, s3, s4⟩ := HC.out _ (D2.out.trans hb.2.2); clear z0 z2 z3 z4; clear hb))
      go_end0
      exact ⟨rfl, R3.out.of (by simp)⟩
set_option maxHeartbeats 6400000 in
set_option maxRecDepth 100000 in
theorem block_step {n : Nat} (ih : StmtW n) : BlockW (n + 1) := by
  intro b P acc l v d w h hP hw ht hd hlen
  obtain ⟨A, cap, rfl, hc, hl, hat⟩ := h
  have HAt := Lib.hid hat
  have HW := Lib.hid hw
  have HT := Lib.hid ht
  have HD := Lib.hid hd
  have hl2 : l.length ≤ 2199023255552 := by omega
  unfold blockF at hlen ⊢
  simp only [List.length_append, List.length_cons, List.length_nil] at hlen
  have HL := Lib.hid hlen
  have hd2 : (d : Int) ≤ 1099511627776 := by omega
  have H1 := Lib.hid (texts1 ⟨#[32, 123, 10]⟩ [32, 123, 10] rfl hw (by simp only [List.length_cons, List.length_nil]; omega))
  obtain ⟨m, hm⟩ : ∃ m, l.length = m := ⟨_, rfl⟩
  have HM := Lib.hid hm
  rw [hm] at hl2 hc ⊢
  clear hat hw ht hd hlen hl hm
  go_enter Tryz.func44, Tryz.ntmps44
  go_wp2_with (go_at_call 41; have HX := H1.out; (with_reducible refine HX.mono ?_); clear HX; rintro e w1 ⟨rfl, hb⟩; have R1 := Lib.hid hb; clear hb)
  go_loopw [13] (fun i wr => ∃ k : Nat, i = .int .i64 (k : Int) ∧ k ≤ m ∧ RetWr b (acc ++ [32, 123, 10] ++ tB (l.take k) (d + 1)) w wr) (fun i _ => m - (RowKit.intOf i).toNat)
  case atStart => exact ⟨0, rfl, Nat.zero_le _, R1.out.of (by rw [List.take_zero]; simp [textB])⟩
  case round =>
    obtain ⟨k, rfl, hk, hr⟩ := hrel
    have HR := Lib.hid hr
    clear hr R1
    by_cases hlt : k < m
    · obtain ⟨x, hx⟩ : ∃ x, l[k]? = some x := ⟨l[k]'(by rw [HM.out]; exact hlt), List.getElem?_eq_getElem _⟩
      obtain ⟨bb, off, LE, LA, LB, rfl, hbB, hat, -, hE, hA, hB⟩ := HAt.out k x hx
      obtain ⟨x0, x1, x2, x3, x4, x5⟩ := hat.below HR.out.2.1 (hP bb hbB)
      have hle := tB_le hx (d + 1)
      have hmem := depB_mem hx
      have HS := Lib.hid (tB_take hx (d + 1))
      have HLL : Hid (acc.length + 3 + (tB (l.take k) (d + 1)).length + ((ind (d + 1)).length + (tS x (d + 1)).length + 1) ≤ 140737488355328) := Lib.hid (by have := HL.out; omega)
      have HSt : Hid (∀ acc' w1, RetWr b acc' w w1 → acc'.length + (tS x (d + 1)).length ≤ 140737488355328 → Calls Tryz.prog 76 #[.pointer (some ⟨b, 0, none⟩), stV x.op x.nm LE LA LB x.a, .int .i64 ((d : Int) + 1)] w1 fun e w' => e = .returned (.tuple #[]) ∧ RetWr b (acc' ++ tS x (d + 1)) w1 w') := Lib.hid fun acc' w1 h1 h2 => by
        rw [tS_form] at h2 ⊢
        exact ih b P acc' x.e x.A x.B LE LA LB x.op x.nm x.a (d + 1) w1 (hE.below h1.2.1 hP) (hA.below h1.2.1 hP) (hB.below h1.2.1 hP) hP h1.1 (h1.tab HT.out) (by have := HD.out; omega) h2
      obtain ⟨Ae, ce, rfl, -, -⟩ := hE.slice
      obtain ⟨Aa, ca, rfl, -, -⟩ := hA.slice
      obtain ⟨Ab, cb, rfl, -, -⟩ := hB.slice
      obtain ⟨W0, hW0⟩ : ∃ W0, W0 = wr.alloc (.cells #[.string x.op, .string x.nm, .slice Ae x.e.length ce, .slice Aa x.A.length ca, .slice Ab x.B.length cb, .int .i64 x.a] 116) := ⟨_, rfl⟩
      have R0 : Hid (RetWr b (acc ++ [32, 123, 10] ++ tB (l.take k) (d + 1)) w W0) := Lib.hid (by rw [hW0]; exact HR.out.alloc _)
      have HK : Hid (Blk W0 wr.heap.size 116 #[.string x.op, .string x.nm, .slice Ae x.e.length ce, .slice Aa x.A.length ca, .slice Ab x.B.length cb, .int .i64 x.a]) := Lib.hid (by rw [hW0]; exact Blk.new wr _ _)
      have HNe : Hid (wr.heap.size ≠ b) := Lib.hid (Nat.ne_of_gt HR.out.1.lt)
      have HC : Hid (∀ w1, Kept b W0 w1 → (w1.cell? ⟨wr.heap.size, 0, none⟩ = some (.string x.op) ∧ w1.cell? ⟨wr.heap.size, 1, none⟩ = some (.string x.nm) ∧ w1.cell? ⟨wr.heap.size, 2, none⟩ = some (.slice Ae x.e.length ce)) ∧ w1.cell? ⟨wr.heap.size, 3, none⟩ = some (.slice Aa x.A.length ca) ∧ w1.cell? ⟨wr.heap.size, 4, none⟩ = some (.slice Ab x.B.length cb) ∧ w1.cell? ⟨wr.heap.size, 5, none⟩ = some (.int .i64 x.a)) := Lib.hid fun w1 hk1 => ⟨⟨(HK.out.keptW hk1 HNe.out (by decide)).cell 0, (HK.out.keptW hk1 HNe.out (by decide)).cell 1, (HK.out.keptW hk1 HNe.out (by decide)).cell 2⟩, (HK.out.keptW hk1 HNe.out (by decide)).cell 3, (HK.out.keptW hk1 HNe.out (by decide)).cell 4, (HK.out.keptW hk1 HNe.out (by decide)).cell 5⟩
      have H2 : Hid (Calls Tryz.prog 75 #[.pointer (some ⟨b, 0, none⟩), .int .i64 ((d : Int) + 1)] W0 fun e w' => e = .returned (.tuple #[]) ∧ RetWr b (acc ++ [32, 123, 10] ++ tB (l.take k) (d + 1) ++ ind (d + 1)) W0 w') := Lib.hid (indent_any (d + 1) (by have := HD.out; omega) R0.out.1 (by have := HLL.out; simp only [List.length_append, List.length_cons, List.length_nil]; omega))
      have H3 : Hid (∀ w1, RetWr b (acc ++ [32, 123, 10] ++ tB (l.take k) (d + 1) ++ ind (d + 1)) w w1 → _) := Lib.hid fun w1 h1 => HSt.out _ w1 h1 (by have := HLL.out; simp only [List.length_append, List.length_cons, List.length_nil]; omega)
      have H4 : Hid (∀ w1, Wr b (acc ++ [32, 123, 10] ++ tB (l.take k) (d + 1) ++ ind (d + 1) ++ tS x (d + 1)) w1 → _) := Lib.hid fun w1 h1 => texts1 ⟨#[10]⟩ [10] rfl h1 (by have := HLL.out; simp only [List.length_append, List.length_cons, List.length_nil]; omega)
      have HW0 := Lib.hid hW0
      clear hat hE hA hB hx hle hmem hW0
      go_upto_region 4 with fail
      rw [← HW0.out]
      go_wp2_with (first
        | (go_at_call 75; have HX := H2.out; (with_reducible refine HX.mono ?_); clear HX; rintro e w2 ⟨rfl, hb⟩; have R2 := Lib.hid (R0.out.trans hb); obtain ⟨⟨y0, y1, y2⟩, y3, y4, y5⟩ := HC.out _ hb.2.2; clear hb x0 x1 x2 x3 x4 x5)
        | (go_at_call 76; have HX := H3.out _ R2.out; (with_reducible refine HX.mono ?_); clear HX; rintro e w3 ⟨rfl, hb⟩; have R3 := Lib.hid (R2.out.trans hb); clear hb y0 y1 y2 y3 y4 y5)
        | (go_at_call 41; have HX := H4.out _ R3.out.1; (with_reducible refine HX.mono ?_); clear HX; rintro e w4 ⟨rfl, hb⟩; have R4 := Lib.hid (R3.out.trans hb); clear hb))
      go_roundw
      case rel => exact ⟨k + 1, by go_num, hlt, R4.out.of (by rw [HS.out]; simp only [List.append_assoc])⟩
      case measure => simp [RowKit.intOf]; omega
    · have he : k = m := by omega
      subst he
      have hT : l.take k = l := by rw [← HM.out, List.take_length]
      rw [hT] at HR
      have H2 := Lib.hid (indent_any d (by omega) HR.out.1 (by have := HL.out; simp only [List.length_append, List.length_cons, List.length_nil]; omega))
      have H3 : Hid (∀ w1, Wr b (acc ++ [32, 123, 10] ++ tB l (d + 1) ++ ind d) w1 → _) := Lib.hid fun w1 h1 => texts1 ⟨#[125]⟩ [125] rfl h1 (by have := HL.out; simp only [List.length_append, List.length_cons, List.length_nil]; omega)
      clear hT
      go_wp2_with (first
        | (go_at_call 75; have HX := H2.out; (with_reducible refine HX.mono ?_); clear HX; rintro e w2 ⟨rfl, hb⟩; have R2 := Lib.hid (HR.out.trans hb); clear hb)
        | (go_at_call 41; have HX := H3.out _ R2.out.1; (with_reducible refine HX.mono ?_); clear HX; rintro e w3 ⟨rfl, hb⟩; have R3 := Lib.hid (R2.out.trans hb); clear hb))
      go_end0
      exact ⟨rfl, R3.out.of (by simp)⟩
theorem stmtW_any (n : Nat) : BlockW n ∧ StmtW n := by
  induction n with
  | zero => exact ⟨fun b P acc l v d w h => h.elim, fun b P acc l LA LB v vA vB op nm a d w h => h.elim⟩
  | succ n ih => exact ⟨block_step ih.2, stmt_step (block_step ih.2)⟩
end
end Go.Proofs.YteaongdlbleehaaGreatDoor
