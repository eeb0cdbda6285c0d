/- The tree layer: how many expressions there are. -/
import Derived.Test.YtklfcjimgnnlfaaDoorTrBase
import Derived.Test.YtklfcjimgnnlfaaDoorLBlk
import Derived.Deep.LoopGhost
namespace Go.Proofs.YtklfcjimgnnlfaaDoor
open Go.RowKit
theorem W64_add (a b : Nat) : wrap64 (W64 a + W64 b) = W64 (a + b) := by
  unfold W64
  simp only [IntWalk.i64_left]
  unfold wrap64
  omega
theorem W64_in (a : Nat) : -9223372036854775808 ≤ W64 a ∧ W64 a ≤ 9223372036854775807 := by
  unfold W64
  simp only [IntWalk.i64_left]
  unfold wrap64
  omega
theorem W64_len {a : Nat} (h : a ≤ 9223372036854775807) : W64 a = (a : Int) := by
  unfold W64
  simp only [IntWalk.i64_left]
  unfold wrap64
  omega
/-- The sum of some number over a row. -/
def sumF {α : Type} (f : α → Nat) : List α → Nat
  | [] => 0
  | x :: r => f x + sumF f r
theorem sumF_app {α : Type} (f : α → Nat) (l r : List α) : sumF f (l ++ r) = sumF f l + sumF f r := by
  induction l with
  | nil => simp [sumF]
  | cons x l ih => simp only [List.cons_append, sumF, ih]; omega
theorem take_one {α : Type} {l : List α} {k : Nat} {x : α} (h : l[k]? = some x) : l.take (k + 1) = l.take k ++ [x] := by
  rw [List.take_add_one, h]; rfl
theorem sumF_take {α : Type} (f : α → Nat) {l : List α} {k : Nat} {x : α} (h : l[k]? = some x) : sumF f (l.take (k + 1)) = sumF f (l.take k) + f x := by
  rw [take_one h, sumF_app]; simp [sumF]
theorem szL_sum (l : List Ex) : szL l = l.length + sumF (fun x => szL x.l) l := by
  induction l with
  | nil => rfl
  | cons x l ih =>
    cases x
    simp only [szL, szE, sumF, List.length_cons, Ex.l, ih]
    omega
theorem ret_int {a b : Int} (h : a = b) : Ending.returned (.int .i64 a) = .returned (.int .i64 b) := by rw [h]
theorem int_of {a b : Int} (h : a = b) : Value.int .i64 a = .int .i64 b := by rw [h]
section
variable {W : World}
set_option maxRecDepth 100000 in
set_option maxHeartbeats 3200000 in
theorem sizedExprs_any (n : Nat) : ∀ (l : List Ex) (v : Value) (P : Nat → Prop) (W : World), ExR P n W l v → (∀ b, P b → b < W.heap.size) → Calls Tryd.prog 49 #[v] W (fun e w' => e = .returned (.int .i64 (W64 (szL l))) ∧ Below W.heap.size W w') := by
  induction n with
  | zero => intro l v P W h; exact h.elim
  | succ n ih =>
    intro l v P W h hP
    obtain ⟨A, cap, rfl, hc, hl, hat⟩ := h
    have HAt := Lib.hid hat
    have HIH := Lib.hid ih
    have HSum := Lib.hid (szL_sum l)
    have hl2 : l.length ≤ 2199023255552 := by omega
    have HL0 := Lib.hid (W64_len (a := l.length) (by omega))
    clear hat ih hl
    obtain ⟨m, hm⟩ : ∃ m, l.length = m := ⟨_, rfl⟩
    have HM := Lib.hid hm
    rw [hm] at hl2 hc HSum HL0 ⊢
    clear hm
    go_enter Tryd.func49, Tryd.ntmps49
    go_wp2
    go_loopw [3, 10] (fun s i wr => ∃ k : Nat, i = .int .i64 (k : Int) ∧ k ≤ m ∧ s = .int .i64 (W64 (m + sumF (fun x => szL x.l) (l.take k))) ∧ Below W.heap.size W wr) (fun _ i _ => m - (RowKit.intOf i).toNat)
    case atStart => exact ⟨0, rfl, Nat.zero_le _, by rw [List.take_zero]; simp only [sumF, Nat.add_zero]; rw [HL0.out], Below.refl _ _⟩
    case round =>
      obtain ⟨k, rfl, hk, rfl, hbw⟩ := hrel
      by_cases hlt : k < m
      · obtain ⟨x, hx⟩ : ∃ x, l[k]? = some x := ⟨l[k]'(by rw [HM.out]; exact hlt), List.getElem?_eq_getElem _⟩
        obtain ⟨b, off, L, rfl, hbB, hat, -, -, hr⟩ := HAt.out k x hx
        obtain ⟨x0, x1, x2, x3, x4⟩ := hat.below hbw (hP b hbB)
        obtain ⟨A', cap', rfl, hc', -⟩ := hr.slice
        have HS := Lib.hid (sumF_take (fun x => szL x.l) hx)
        have HBw := Lib.hid hbw
        have hs := HBw.out.size
        obtain ⟨sv, hsv⟩ : ∃ sv, sv = W64 (m + sumF (fun x => szL x.l) (l.take k)) := ⟨_, rfl⟩
        rw [← hsv]
        have HSV := Lib.hid hsv
        have hi := W64_in (m + sumF (fun x => szL x.l) (l.take k))
        rw [← hsv] at hi
        obtain ⟨tv, htv⟩ : ∃ tv, tv = W64 (szL x.l) := ⟨_, rfl⟩
        have HTV := Lib.hid htv
        have HC : Hid (∀ w2, Below wr.heap.size wr w2 → Calls Tryd.prog 49 #[.slice A' x.l.length cap'] w2 (fun e w' => e = .returned (.int .i64 tv) ∧ Below w2.heap.size w2 w')) := Lib.hid fun w2 hb2 => by
          rw [htv]
          have q := thru hbw hb2
          exact HIH.out x.l _ P w2 (hr.below q hP) (lo_up hP q.size)
        have HB1 := Lib.hid ((Below.refl wr.heap.size wr).alloc (Nat.le_refl _) (.cells #[.string x.op, .string x.nm, .int .i64 x.n, .slice A' x.l.length cap', .int .i64 x.a] 52))
        clear hsv htv hat hr hbw
        go_wp2_with (go_at_call 49; with_reducible refine (HC.out _ HB1.out).mono ?_; rintro e w1 ⟨rfl, hb⟩; have HB2 := Lib.hid (HB1.out.trans (hb.mono HB1.out.size)); clear hb)
        go_roundw
        case rel => exact ⟨k + 1, by go_num, hlt, by rw [HS.out, ← Nat.add_assoc, ← W64_add, ← HSV.out, ← HTV.out], HBw.out.trans (HB2.out.mono hs)⟩
        case measure => simp [RowKit.intOf]; omega
      · have he : k = m := by omega
        subst he
        have HF : Hid (W64 (k + sumF (fun x => szL x.l) (l.take k)) = W64 (szL l)) := Lib.hid (by rw [HSum.out, ← HM.out, List.take_length])
        go_wp2_with fail
        go_ret
        exact ⟨ret_int HF.out, hbw⟩
set_option maxRecDepth 100000 in
set_option maxHeartbeats 3200000 in
theorem rsize_any (n : Nat) : ∀ (l : List Ex) (v : Value) (P : Nat → Prop) (W : World), ExR P n W l v → (∀ b, P b → b < W.heap.size) → Calls Tryd.prog 45 #[v] W (fun e w' => e = .returned (.int .i64 (W64 (szL l))) ∧ Below W.heap.size W w') := by
  induction n with
  | zero => intro l v P W h; exact h.elim
  | succ n ih =>
    intro l v P W h hP
    obtain ⟨A, cap, rfl, hc, hl, hat⟩ := h
    have HAt := Lib.hid hat
    have HIH := Lib.hid ih
    have HSum := Lib.hid (szL_sum l)
    have hl2 : l.length ≤ 2199023255552 := by omega
    have HL0 := Lib.hid (W64_len (a := l.length) (by omega))
    clear hat ih hl
    obtain ⟨m, hm⟩ : ∃ m, l.length = m := ⟨_, rfl⟩
    have HM := Lib.hid hm
    rw [hm] at hl2 hc HSum HL0 ⊢
    clear hm
    go_enter Tryd.func45, Tryd.ntmps45
    go_wp2
    go_loopw [3, 4] (fun s i wr => ∃ k : Nat, i = .int .i64 (k : Int) ∧ k ≤ m ∧ s = .int .i64 (W64 (m + sumF (fun x => szL x.l) (l.take k))) ∧ Below W.heap.size W wr) (fun _ i _ => m - (RowKit.intOf i).toNat)
    case atStart => exact ⟨0, rfl, Nat.zero_le _, by rw [List.take_zero]; simp only [sumF, Nat.add_zero]; rw [HL0.out], Below.refl _ _⟩
    case round =>
      obtain ⟨k, rfl, hk, rfl, hbw⟩ := hrel
      by_cases hlt : k < m
      · obtain ⟨x, hx⟩ : ∃ x, l[k]? = some x := ⟨l[k]'(by rw [HM.out]; exact hlt), List.getElem?_eq_getElem _⟩
        obtain ⟨b, off, L, rfl, hbB, hat, -, -, hr⟩ := HAt.out k x hx
        obtain ⟨x0, x1, x2, x3, x4⟩ := hat.below hbw (hP b hbB)
        obtain ⟨A', cap', rfl, hc', -⟩ := hr.slice
        have HS := Lib.hid (sumF_take (fun x => szL x.l) hx)
        have HBw := Lib.hid hbw
        have hs := HBw.out.size
        obtain ⟨sv, hsv⟩ : ∃ sv, sv = W64 (m + sumF (fun x => szL x.l) (l.take k)) := ⟨_, rfl⟩
        rw [← hsv]
        have HSV := Lib.hid hsv
        have hi := W64_in (m + sumF (fun x => szL x.l) (l.take k))
        rw [← hsv] at hi
        obtain ⟨tv, htv⟩ : ∃ tv, tv = W64 (szL x.l) := ⟨_, rfl⟩
        have HTV := Lib.hid htv
        have HC : Hid (Calls Tryd.prog 45 #[.slice A' x.l.length cap'] wr (fun e w' => e = .returned (.int .i64 tv) ∧ Below wr.heap.size wr w')) := Lib.hid (by
          rw [htv]
          exact HIH.out x.l _ P wr (hr.below hbw hP) (lo_up hP hbw.size))
        clear hsv htv hat hr hbw
        go_wp2_with (go_at_call 45; with_reducible refine (HC.out).mono ?_; rintro e w1 ⟨rfl, hb⟩; have HB2 := Lib.hid hb; clear hb)
        go_roundw
        case rel => exact ⟨k + 1, by go_num, hlt, by rw [HS.out, ← Nat.add_assoc, ← W64_add, ← HSV.out, ← HTV.out], HBw.out.trans (HB2.out.mono hs)⟩
        case measure => simp [RowKit.intOf]; omega
      · have he : k = m := by omega
        subst he
        have HF : Hid (W64 (k + sumF (fun x => szL x.l) (l.take k)) = W64 (szL l)) := Lib.hid (by rw [HSum.out, ← HM.out, List.take_length])
        go_wp2_with fail
        go_ret
        exact ⟨ret_int HF.out, hbw⟩
/-- The greatest depth of a row, so far. -/
theorem deepL_app (l r : List Ex) : deepL (l ++ r) = max (deepL l) (deepL r) := by
  induction l with
  | nil => simp [deepL]
  | cons x l ih => simp only [List.cons_append, deepL, ih]; omega
theorem deepL_take {l : List Ex} {k : Nat} {x : Ex} (h : l[k]? = some x) : deepL (l.take (k + 1)) = max (deepL (l.take k)) (1 + deepL x.l) := by
  rw [take_one h, deepL_app]
  cases x
  simp [deepL, deepE, Ex.l]
theorem deepL_mem {l : List Ex} {k : Nat} {x : Ex} (h : l[k]? = some x) : 1 + deepL x.l ≤ deepL l := by
  have h1 := deepL_take h
  have h2 : deepL l = max (deepL (l.take (k + 1))) (deepL (l.drop (k + 1))) := by rw [← deepL_app, List.take_append_drop]
  omega
theorem deepL_to (l : List Ex) (k : Nat) : deepL (l.take k) ≤ deepL l := by
  have h2 : deepL l = max (deepL (l.take k)) (deepL (l.drop k)) := by rw [← deepL_app, List.take_append_drop]
  omega
set_option maxRecDepth 100000 in
set_option maxHeartbeats 3200000 in
theorem deep_any (n : Nat) : ∀ (l : List Ex) (op nm : ByteArray) (q a : Int) (v : Value) (P : Nat → Prop) (W : World), ExR P n W l v → (∀ b, P b → b < W.heap.size) → deepL l ≤ 1152921504606846976 → Calls Tryd.prog 23 #[exV op nm q v a] W (fun e w' => e = .returned (.int .i64 ((1 + deepL l : Nat) : Int)) ∧ Below W.heap.size W w') := by
  induction n with
  | zero => intro l op nm q a v P W h; exact h.elim
  | succ n ih =>
    intro l op nm q a v P W h hP hdp
    obtain ⟨A, cap, rfl, hc, hl, hat⟩ := h
    have HAt := Lib.hid hat
    have HIH := Lib.hid ih
    have hl2 : l.length ≤ 2199023255552 := by omega
    clear hat ih hl
    obtain ⟨m, hm⟩ : ∃ m, l.length = m := ⟨_, rfl⟩
    have HM := Lib.hid hm
    rw [hm] at hl2 hc ⊢
    clear hm
    obtain ⟨W0, hW0⟩ : ∃ W0, W0 = W.alloc (.cells #[.string op, .string nm, .int .i64 q, .slice A m cap, .int .i64 a] 52) := ⟨_, rfl⟩
    have HB0 : Hid (Below W.heap.size W W0) := Lib.hid (by rw [hW0]; exact (Below.refl _ _).alloc (Nat.le_refl _) _)
    have HW0 := Lib.hid hW0
    go_enter Tryd.func23, Tryd.ntmps23
    go_wp2
    rw [← HW0.out]
    clear hW0
    go_loopw [3, 9] (fun s i wr => ∃ k : Nat, i = .int .i64 (k : Int) ∧ k ≤ m ∧ s = .int .i64 (deepL (l.take k) : Int) ∧ Below W.heap.size W wr) (fun _ i _ => m - (RowKit.intOf i).toNat)
    case atStart => exact ⟨0, rfl, Nat.zero_le _, by rw [List.take_zero]; rfl, HB0.out⟩
    case round =>
      obtain ⟨k, rfl, hk, rfl, hbw⟩ := hrel
      by_cases hlt : k < m
      · obtain ⟨x, hx⟩ : ∃ x, l[k]? = some x := ⟨l[k]'(by rw [HM.out]; exact hlt), List.getElem?_eq_getElem _⟩
        obtain ⟨b, off, L, rfl, hbB, hat, -, -, hr⟩ := HAt.out k x hx
        obtain ⟨x0, x1, x2, x3, x4⟩ := hat.below hbw (hP b hbB)
        obtain ⟨A', cap', rfl, hc', -⟩ := hr.slice
        have HS := Lib.hid (deepL_take hx)
        have d1 := deepL_mem hx
        have d2 := deepL_to l k
        have HBw := Lib.hid hbw
        have hs := HBw.out.size
        obtain ⟨sv, hsv⟩ : ∃ sv, sv = deepL (l.take k) := ⟨_, rfl⟩
        rw [← hsv]
        rw [← hsv] at HS d2
        obtain ⟨tv, htv⟩ : ∃ tv, tv = 1 + deepL x.l := ⟨_, rfl⟩
        rw [← htv] at HS d1
        have hsv2 : (sv : Int) ≤ 1152921504606846976 := by omega
        have htv2 : (tv : Int) ≤ 1152921504606846976 := by omega
        have HC : Hid (∀ w2, Below wr.heap.size wr w2 → Calls Tryd.prog 23 #[exV x.op x.nm x.n (.slice A' x.l.length cap') x.a] w2 (fun e w' => e = .returned (.int .i64 (tv : Int)) ∧ Below w2.heap.size w2 w')) := Lib.hid fun w2 hb2 => by
          rw [htv]
          have q := thru hbw hb2
          exact HIH.out x.l _ _ _ _ _ P w2 (hr.below q hP) (lo_up hP q.size) (by omega)
        have HB1 := Lib.hid ((Below.refl wr.heap.size wr).alloc (Nat.le_refl _) (.cells #[.string x.op, .string x.nm, .int .i64 x.n, .slice A' x.l.length cap', .int .i64 x.a] 52))
        clear hsv htv hat hr hbw d1 d2 hdp
        go_wp2_with (go_at_call 23; with_reducible refine (HC.out _ HB1.out).mono ?_; rintro e w1 ⟨rfl, hb⟩; have HB2 := Lib.hid (HB1.out.trans (hb.mono HB1.out.size)); clear hb)
        go_roundw
        case rel => exact ⟨k + 1, by go_num, hlt, by rw [HS.out]; exact int_of (by split <;> omega), HBw.out.trans (HB2.out.mono hs)⟩
        case measure => simp [RowKit.intOf]; omega
      · have he : k = m := by omega
        subst he
        have d2 := deepL_to l k
        have HF : Hid (deepL (l.take k) = deepL l) := Lib.hid (by rw [← HM.out, List.take_length])
        have d3 : (deepL (l.take k) : Int) ≤ 1152921504606846976 := by omega
        clear d2 hdp
        go_wp2_with fail
        go_ret
        exact ⟨ret_int (by rw [← HF.out]; omega), hbw⟩
end
end Go.Proofs.YtklfcjimgnnlfaaDoor
