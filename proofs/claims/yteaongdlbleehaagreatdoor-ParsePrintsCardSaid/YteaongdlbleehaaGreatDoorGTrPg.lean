/- Put together of: TrSame, TrPg, TrPgSame. -/
import Derived.Test.YteaongdlbleehaaGreatDoorGTrNum
import Derived.Deep.DeepCutAuto
import Derived.Deep.QuietTactic
import Derived.BigQuiet
/- The tree layer: what is the same: expressions, statements. -/
namespace Go.Proofs.YteaongdlbleehaaGreatDoor
open Go.RowKit
theorem ret_bool {a b : Bool} (h : a = b) : Ending.returned (.bool a) = .returned (.bool b) := by rw [h]
/-- A fold over two rows side by side. -/
def sameF {α β : Type} (f : α → β → Bool) : List α → List β → Bool
  | [], [] => true
  | x :: r, y :: s => f x y && sameF f r s
  | _, _ => false
theorem sameF_len {α β : Type} (f : α → β → Bool) {l : List α} {r : List β} (h : l.length ≠ r.length) : sameF f l r = false := by
  induction l generalizing r with
  | nil => cases r with
    | nil => exact absurd rfl h
    | cons y r => rfl
  | cons x l ih => cases r with
    | nil => rfl
    | cons y r => simp only [sameF, ih (r := r) (fun e => h (by simp [e])), Bool.and_false]
theorem sameF_at {α β : Type} (f : α → β → Bool) {l : List α} {r : List β} {k : Nat} {x : α} {y : β} (hx : l[k]? = some x) (hy : r[k]? = some y) : sameF f (l.drop k) (r.drop k) = (f x y && sameF f (l.drop (k + 1)) (r.drop (k + 1))) := by
  obtain ⟨h1, e1⟩ := List.getElem?_eq_some_iff.1 hx
  obtain ⟨h2, e2⟩ := List.getElem?_eq_some_iff.1 hy
  rw [List.drop_eq_getElem_cons h1, List.drop_eq_getElem_cons h2, e1, e2]
  rfl
theorem sameL_F (l r : List Ex) : sameL l r = sameF sameE l r := by
  induction l generalizing r with
  | nil => cases r <;> rfl
  | cons x l ih => cases r with
    | nil => rfl
    | cons y r => simp only [sameL, sameF, ih]
theorem sameB_F (l r : List St) : sameB l r = sameF sameS l r := by
  induction l generalizing r with
  | nil => cases r <;> rfl
  | cons x l ih => cases r with
    | nil => rfl
    | cons y r => simp only [sameB, sameF, ih]
/-- Two expressions, by their parts. -/
def sameX (o nm : ByteArray) (k : Int) (l : List Ex) (o' nm' : ByteArray) (k' : Int) (l' : List Ex) : Bool := (o.toList == o'.toList) && ((nm.toList == nm'.toList) && ((k == k') && sameL l l'))
theorem sameE_X (x y : Ex) : sameE x y = sameX x.op x.nm x.n x.l y.op y.nm y.n y.l := by cases x; cases y; rfl
def sameSX (o nm : ByteArray) (e : List Ex) (A B : List St) (o' nm' : ByteArray) (e' : List Ex) (A' B' : List St) : Bool := (o.toList == o'.toList) && ((nm.toList == nm'.toList) && (sameL e e' && (sameB A A' && sameB B B')))
theorem sameS_X (x y : St) : sameS x y = sameSX x.op x.nm x.e x.A x.B y.op y.nm y.e y.A y.B := by cases x; cases y; rfl
section
variable {W : World}
set_option maxRecDepth 100000 in
set_option maxHeartbeats 6400000 in
theorem rowEq_step {n : Nat} (ih : ∀ (l r : List Ex) (o nm : ByteArray) (k a : Int) (o' nm' : ByteArray) (k' a' : Int) (v u : Value) (P : Nat → Prop) (W : World), ExR P n W l v → ExR P n W r u → (∀ b, P b → b < W.heap.size) → Calls Tryz.prog 94 #[exV o nm k v a, exV o' nm' k' u a'] W (fun e w' => e = .returned (.bool (sameX o nm k l o' nm' k' r)) ∧ Below W.heap.size W w')) : ∀ (l r : List Ex) (v u : Value) (P : Nat → Prop) (W : World), ExR P (n + 1) W l v → ExR P (n + 1) W r u → (∀ b, P b → b < W.heap.size) → Calls Tryz.prog 93 #[v, u, .func (.func 94) #[] #[]] W (fun e w' => e = .returned (.bool (sameL l r)) ∧ Below W.heap.size W w') := by
  intro l r v u P W hv hu hP
  obtain ⟨A1, cap1, rfl, hc1, hl1, hat1⟩ := hv
  obtain ⟨A2, cap2, rfl, hc2, hl2, hat2⟩ := hu
  have HA1 := Lib.hid hat1
  have HA2 := Lib.hid hat2
  have hl3 : l.length ≤ 140737488355328 := by omega
  have hl4 : r.length ≤ 140737488355328 := by omega
  clear hat1 hat2 hl1 hl2
  by_cases hlen : l.length = r.length
  · have hneq : ((l.length : Int) != (r.length : Int)) = false := by rw [hlen]; simp
    obtain ⟨m, hm⟩ : ∃ m, r.length = m := ⟨_, rfl⟩
    rw [hm] at hlen hneq hl4 hc2 ⊢
    have HM1 := Lib.hid hlen
    have HM2 := Lib.hid hm
    rw [hlen] at hl3 hc1 hneq ⊢
    clear hm hlen
    go_enter Tryz.func93, Tryz.ntmps93
    go_wp2
    go_loopw [17] (fun i wr => ∃ k : Nat, i = .int .i64 (k : Int) ∧ k ≤ m ∧ Hid (sameL (l.drop k) (r.drop k) = sameL l r) ∧ Below W.heap.size W wr) (fun i _ => m - (RowKit.intOf i).toNat)
    case atStart => exact ⟨0, rfl, Nat.zero_le _, Lib.hid rfl, Below.refl _ _⟩
    case round =>
      obtain ⟨k, rfl, hk, HEq, hbw⟩ := hrel
      by_cases hlt : k < m
      · obtain ⟨x, hx⟩ : ∃ x, l[k]? = some x := ⟨l[k]'(by rw [HM1.out]; exact hlt), List.getElem?_eq_getElem _⟩
        obtain ⟨y, hy⟩ : ∃ y, r[k]? = some y := ⟨r[k]'(by rw [HM2.out]; exact hlt), List.getElem?_eq_getElem _⟩
        obtain ⟨b1, off1, L1, rfl, hbB1, ha1, -, -, hr1⟩ := HA1.out k x hx
        obtain ⟨b2, off2, L2, rfl, hbB2, ha2, -, -, hr2⟩ := HA2.out k y hy
        obtain ⟨x0, x1, x2, x3, x4⟩ := ha1.below hbw (hP b1 hbB1)
        obtain ⟨y0, y1, y2, y3, y4⟩ := ha2.below hbw (hP b2 hbB2)
        obtain ⟨B1, c1, rfl, -, -⟩ := hr1.slice
        obtain ⟨B2, c2, rfl, -, -⟩ := hr2.slice
        obtain ⟨q, hq⟩ : ∃ q, q = sameE x y := ⟨_, rfl⟩
        have HC : Hid (∀ w2, Below W.heap.size W w2 → Calls Tryz.prog 94 #[exV x.op x.nm x.n (.slice B1 x.l.length c1) x.a, exV y.op y.nm y.n (.slice B2 y.l.length c2) y.a] w2 (fun e w' => e = .returned (.bool q) ∧ Below w2.heap.size w2 w')) := Lib.hid fun w2 hb2 => by
          rw [hq, sameE_X]
          exact ih _ _ _ _ _ _ _ _ _ _ _ _ P w2 (hr1.below hb2 hP) (hr2.below hb2 hP) (lo_up hP hb2.size)
        clear ha1 ha2 hr1 hr2
        have hbw2 : b2 < wr.heap.size := lo_up hP hbw.size b2 hbB2
        have HBw := Lib.hid hbw
        have HB1 := Lib.hid ((Below.refl wr.heap.size wr).alloc (Nat.le_refl _) (.cells #[.string x.op, .string x.nm, .int .i64 x.n, .slice B1 x.l.length c1, .int .i64 x.a] 52))
        have HB2 := Lib.hid (thru HB1.out ((Below.refl _ _).alloc (Nat.le_refl _) (.cells #[.string y.op, .string y.nm, .int .i64 y.n, .slice B2 y.l.length c2, .int .i64 y.a] 52)))
        have HSt : Hid (sameL (l.drop k) (r.drop k) = (q && sameL (l.drop (k + 1)) (r.drop (k + 1)))) := Lib.hid (by
          rw [sameL_F, sameL_F]
          exact (sameF_at _ hx hy).trans (by rw [hq]))
        clear hbw hx hy hq
        cases q
        · go_wp2_with (go_at_call 94; with_reducible refine (HC.out _ (thru HBw.out HB2.out)).mono ?_; rintro e w1 ⟨rfl, hb⟩; have HB3 := Lib.hid (thru HBw.out (thru HB2.out hb)); clear hb)
          go_ret
          exact ⟨ret_bool (by rw [← HEq.out, HSt.out, Bool.false_and]), HB3.out⟩
        · go_wp2_with (go_at_call 94; with_reducible refine (HC.out _ (thru HBw.out HB2.out)).mono ?_; rintro e w1 ⟨rfl, hb⟩; have HB3 := Lib.hid (thru HBw.out (thru HB2.out hb)); clear hb)
          go_roundw
          case rel => exact ⟨k + 1, by go_num, hlt, Lib.hid (by rw [← HEq.out, HSt.out, Bool.true_and]), HB3.out⟩
          case measure => simp [RowKit.intOf]; omega
      · have he : k = m := by omega
        subst he
        have HT : Hid (sameL l r = true) := Lib.hid (by rw [← HEq.out, List.drop_eq_nil_of_le (by rw [HM1.out]; exact Nat.le_refl _), List.drop_eq_nil_of_le (by rw [HM2.out]; exact Nat.le_refl _)]; rfl)
        go_wp2_with fail
        go_ret
        exact ⟨ret_bool HT.out.symm, hbw⟩
  · have hneq : ((l.length : Int) != (r.length : Int)) = true := by simp; omega
    have HF : Hid (sameL l r = false) := Lib.hid (by rw [sameL_F]; exact sameF_len _ hlen)
    clear hlen
    go_enter Tryz.func93, Tryz.ntmps93
    go_wp2
    go_ret
    exact ⟨ret_bool HF.out.symm, Below.refl _ _⟩
set_option maxRecDepth 100000 in
set_option maxHeartbeats 6400000 in
theorem exEq_step {n : Nat} (hrow : ∀ (l r : List Ex) (v u : Value) (P : Nat → Prop) (W : World), ExR P n W l v → ExR P n W r u → (∀ b, P b → b < W.heap.size) → Calls Tryz.prog 93 #[v, u, .func (.func 94) #[] #[]] W (fun e w' => e = .returned (.bool (sameL l r)) ∧ Below W.heap.size W w')) :
    ∀ (l r : List Ex) (o nm : ByteArray) (k a : Int) (o' nm' : ByteArray) (k' a' : Int) (v u : Value) (P : Nat → Prop) (W : World), ExR P n W l v → ExR P n W r u → (∀ b, P b → b < W.heap.size) → Calls Tryz.prog 94 #[exV o nm k v a, exV o' nm' k' u a'] W (fun e w' => e = .returned (.bool (sameX o nm k l o' nm' k' r)) ∧ Below W.heap.size W w') := by
  intro l r o nm k a o' nm' k' a' v u P W hv hu hP
  obtain ⟨q, hq⟩ : ∃ q, q = sameL l r := ⟨_, rfl⟩
  have HX : Hid (sameX o nm k l o' nm' k' r = ((o.toList == o'.toList) && ((nm.toList == nm'.toList) && ((k == k') && q)))) := Lib.hid (by rw [hq]; rfl)
  have HC : Hid (∀ w2, Below W.heap.size W w2 → Calls Tryz.prog 93 #[v, u, .func (.func 94) #[] #[]] w2 (fun e w' => e = .returned (.bool q) ∧ Below w2.heap.size w2 w')) := Lib.hid fun w2 hb2 => by
    rw [hq]
    exact hrow l r v u P w2 (hv.below hb2 hP) (hu.below hb2 hP) (lo_up hP hb2.size)
  obtain ⟨A1, c1, rfl, -, -⟩ := hv.slice
  obtain ⟨A2, c2, rfl, -, -⟩ := hu.slice
  have HB : Hid (Below W.heap.size W ((W.alloc (.cells #[.string o, .string nm, .int .i64 k, .slice A1 l.length c1, .int .i64 a] 52)).alloc (.cells #[.string o', .string nm', .int .i64 k', .slice A2 r.length c2, .int .i64 a'] 52))) := Lib.hid (thru ((Below.refl _ _).alloc (Nat.le_refl _) _) ((Below.refl _ _).alloc (Nat.le_refl _) _))
  rw [HX.out]
  clear hv hu hq
  cases b1 : (o.toList == o'.toList)
  · go_enter Tryz.func94, Tryz.ntmps94
    go_wp2
    go_ret
    exact ⟨rfl, HB.out⟩
  · cases b2 : (nm.toList == nm'.toList)
    · go_enter Tryz.func94, Tryz.ntmps94
      go_wp2
      go_ret
      exact ⟨rfl, HB.out⟩
    · cases b3 : (k == k')
      · go_enter Tryz.func94, Tryz.ntmps94
        go_wp2
        go_ret
        exact ⟨rfl, HB.out⟩
      · go_enter Tryz.func94, Tryz.ntmps94
        go_wp2_with (go_at_call 93; with_reducible refine (HC.out _ HB.out).mono ?_; rintro e w1 ⟨rfl, hb⟩; have HB3 := Lib.hid (thru HB.out hb); clear hb)
        go_ret
        exact ⟨rfl, HB3.out⟩
/-- Rows of expressions, side by side. -/
theorem rowEq_any (n : Nat) : ∀ (l r : List Ex) (v u : Value) (P : Nat → Prop) (W : World), ExR P n W l v → ExR P n W r u → (∀ b, P b → b < W.heap.size) → Calls Tryz.prog 93 #[v, u, .func (.func 94) #[] #[]] W (fun e w' => e = .returned (.bool (sameL l r)) ∧ Below W.heap.size W w') := by
  induction n with
  | zero => intro l r v u P W h; exact h.elim
  | succ n ih => exact rowEq_step (exEq_step ih)
theorem exEq_any (n : Nat) : ∀ (l r : List Ex) (o nm : ByteArray) (k a : Int) (o' nm' : ByteArray) (k' a' : Int) (v u : Value) (P : Nat → Prop) (W : World), ExR P n W l v → ExR P n W r u → (∀ b, P b → b < W.heap.size) → Calls Tryz.prog 94 #[exV o nm k v a, exV o' nm' k' u a'] W (fun e w' => e = .returned (.bool (sameX o nm k l o' nm' k' r)) ∧ Below W.heap.size W w') := exEq_step (rowEq_any n)
set_option maxRecDepth 100000 in
set_option maxHeartbeats 6400000 in
theorem blkEq_step {n : Nat} (ih : ∀ (e : List Ex) (A B : List St) (e' : List Ex) (A' B' : List St) (o nm : ByteArray) (a : Int) (o' nm' : ByteArray) (a' : Int) (ve vA vB ue uA uB : Value) (P : Nat → Prop) (W : World), ExR P n W e ve → StR P n W A vA → StR P n W B vB → ExR P n W e' ue → StR P n W A' uA → StR P n W B' uB → (∀ b, P b → b < W.heap.size) → Calls Tryz.prog 59 #[stV o nm ve vA vB a, stV o' nm' ue uA uB a'] W (fun r w' => r = .returned (.bool (sameSX o nm e A B o' nm' e' A' B')) ∧ Below W.heap.size W w')) : ∀ (l r : List St) (v u : Value) (P : Nat → Prop) (W : World), StR P (n + 1) W l v → StR P (n + 1) W r u → (∀ b, P b → b < W.heap.size) → Calls Tryz.prog 58 #[v, u, .func (.func 59) #[] #[]] W (fun e w' => e = .returned (.bool (sameB l r)) ∧ Below W.heap.size W w') := by
  intro l r v u P W hv hu hP
  obtain ⟨A1, cap1, rfl, hc1, hl1, hat1⟩ := hv
  obtain ⟨A2, cap2, rfl, hc2, hl2, hat2⟩ := hu
  have HA1 := Lib.hid hat1
  have HA2 := Lib.hid hat2
  have hl3 : l.length ≤ 140737488355328 := by omega
  have hl4 : r.length ≤ 140737488355328 := by omega
  clear hat1 hat2 hl1 hl2
  by_cases hlen : l.length = r.length
  · have hneq : ((l.length : Int) != (r.length : Int)) = false := by rw [hlen]; simp
    obtain ⟨m, hm⟩ : ∃ m, r.length = m := ⟨_, rfl⟩
    rw [hm] at hlen hneq hl4 hc2 ⊢
    have HM1 := Lib.hid hlen
    have HM2 := Lib.hid hm
    rw [hlen] at hl3 hc1 hneq ⊢
    clear hm hlen
    go_enter Tryz.func58, Tryz.ntmps58
    go_wp2
    go_loopw [17] (fun i wr => ∃ k : Nat, i = .int .i64 (k : Int) ∧ k ≤ m ∧ Hid (sameB (l.drop k) (r.drop k) = sameB l r) ∧ Below W.heap.size W wr) (fun i _ => m - (RowKit.intOf i).toNat)
    case atStart => exact ⟨0, rfl, Nat.zero_le _, Lib.hid rfl, Below.refl _ _⟩
    case round =>
      obtain ⟨k, rfl, hk, HEq, hbw⟩ := hrel
      by_cases hlt : k < m
      · obtain ⟨x, hx⟩ : ∃ x, l[k]? = some x := ⟨l[k]'(by rw [HM1.out]; exact hlt), List.getElem?_eq_getElem _⟩
        obtain ⟨y, hy⟩ : ∃ y, r[k]? = some y := ⟨r[k]'(by rw [HM2.out]; exact hlt), List.getElem?_eq_getElem _⟩
        obtain ⟨b1, off1, LE1, LA1, LB1, rfl, hbB1, ha1, -, he1, hra1, hrb1⟩ := HA1.out k x hx
        obtain ⟨b2, off2, LE2, LA2, LB2, rfl, hbB2, ha2, -, he2, hra2, hrb2⟩ := HA2.out k y hy
        obtain ⟨x0, x1, x2, x3, x4, x5⟩ := ha1.below hbw (hP b1 hbB1)
        obtain ⟨y0, y1, y2, y3, y4, y5⟩ := ha2.below hbw (hP b2 hbB2)
        obtain ⟨E1, e1, rfl, -, -⟩ := he1.slice
        obtain ⟨E2, e2, rfl, -, -⟩ := he2.slice
        obtain ⟨B1, c1, rfl, -, -⟩ := hra1.slice
        obtain ⟨B2, c2, rfl, -, -⟩ := hra2.slice
        obtain ⟨D1, d1, rfl, -, -⟩ := hrb1.slice
        obtain ⟨D2, d2, rfl, -, -⟩ := hrb2.slice
        obtain ⟨q, hq⟩ : ∃ q, q = sameS x y := ⟨_, rfl⟩
        have HC : Hid (∀ w2, Below W.heap.size W w2 → Calls Tryz.prog 59 #[stV x.op x.nm (.slice E1 x.e.length e1) (.slice B1 x.A.length c1) (.slice D1 x.B.length d1) x.a, stV y.op y.nm (.slice E2 y.e.length e2) (.slice B2 y.A.length c2) (.slice D2 y.B.length d2) y.a] w2 (fun e w' => e = .returned (.bool q) ∧ Below w2.heap.size w2 w')) := Lib.hid fun w2 hb2 => by
          rw [hq, sameS_X]
          exact ih _ _ _ _ _ _ _ _ _ _ _ _ _ _ _ _ _ _ P w2 (he1.below hb2 hP) (hra1.below hb2 hP) (hrb1.below hb2 hP) (he2.below hb2 hP) (hra2.below hb2 hP) (hrb2.below hb2 hP) (lo_up hP hb2.size)
        clear ha1 ha2 he1 he2 hra1 hra2 hrb1 hrb2
        have hbw2 : b2 < wr.heap.size := lo_up hP hbw.size b2 hbB2
        have HBw := Lib.hid hbw
        have HB1 := Lib.hid ((Below.refl wr.heap.size wr).alloc (Nat.le_refl _) (.cells #[.string x.op, .string x.nm, .slice E1 x.e.length e1, .slice B1 x.A.length c1, .slice D1 x.B.length d1, .int .i64 x.a] 116))
        have HB2 := Lib.hid (thru HB1.out ((Below.refl _ _).alloc (Nat.le_refl _) (.cells #[.string y.op, .string y.nm, .slice E2 y.e.length e2, .slice B2 y.A.length c2, .slice D2 y.B.length d2, .int .i64 y.a] 116)))
        have HSt : Hid (sameB (l.drop k) (r.drop k) = (q && sameB (l.drop (k + 1)) (r.drop (k + 1)))) := Lib.hid (by
          rw [sameB_F, sameB_F]
          exact (sameF_at _ hx hy).trans (by rw [hq]))
        clear hbw hx hy hq
        cases q
        · go_wp2_with (go_at_call 59; with_reducible refine (HC.out _ (thru HBw.out HB2.out)).mono ?_; rintro e w1 ⟨rfl, hb⟩; have HB3 := Lib.hid (thru HBw.out (thru HB2.out hb)); clear hb)
          go_ret
          exact ⟨ret_bool (by rw [← HEq.out, HSt.out, Bool.false_and]), HB3.out⟩
        · go_wp2_with (go_at_call 59; with_reducible refine (HC.out _ (thru HBw.out HB2.out)).mono ?_; rintro e w1 ⟨rfl, hb⟩; have HB3 := Lib.hid (thru HBw.out (thru HB2.out hb)); clear hb)
          go_roundw
          case rel => exact ⟨k + 1, by go_num, hlt, Lib.hid (by rw [← HEq.out, HSt.out, Bool.true_and]), HB3.out⟩
          case measure => simp [RowKit.intOf]; omega
      · have he : k = m := by omega
        subst he
        have HT : Hid (sameB l r = true) := Lib.hid (by rw [← HEq.out, List.drop_eq_nil_of_le (by rw [HM1.out]; exact Nat.le_refl _), List.drop_eq_nil_of_le (by rw [HM2.out]; exact Nat.le_refl _)]; rfl)
        go_wp2_with fail
        go_ret
        exact ⟨ret_bool HT.out.symm, hbw⟩
  · have hneq : ((l.length : Int) != (r.length : Int)) = true := by simp; omega
    have HF : Hid (sameB l r = false) := Lib.hid (by rw [sameB_F]; exact sameF_len _ hlen)
    clear hlen
    go_enter Tryz.func58, Tryz.ntmps58
    go_wp2
    go_ret
    exact ⟨ret_bool HF.out.symm, Below.refl _ _⟩
set_option maxRecDepth 100000 in
set_option maxHeartbeats 3200000 in
theorem sameBlock_step {n : Nat} (hrow : ∀ (l r : List St) (v u : Value) (P : Nat → Prop) (W : World), StR P n W l v → StR P n W r u → (∀ b, P b → b < W.heap.size) → Calls Tryz.prog 58 #[v, u, .func (.func 59) #[] #[]] W (fun e w' => e = .returned (.bool (sameB l r)) ∧ Below W.heap.size W w')) :
    ∀ (l r : List St) (v u : Value) (P : Nat → Prop) (W : World), StR P n W l v → StR P n W r u → (∀ b, P b → b < W.heap.size) → Calls Tryz.prog 31 #[v, u] W (fun e w' => e = .returned (.bool (sameB l r)) ∧ Below W.heap.size W w') := by
  intro l r v u P W hv hu hP
  have HC := Lib.hid (hrow l r v u P W hv hu hP)
  clear hrow hv hu hP
  obtain ⟨q, hq⟩ : ∃ q, q = sameB l r := ⟨_, rfl⟩
  rw [← hq] at HC ⊢
  clear hq
  go_enter Tryz.func31, Tryz.ntmps31
  go_wp2_with (go_at_call 58; with_reducible refine (HC.out).mono ?_; rintro e w1 ⟨rfl, hb⟩; have HB3 := Lib.hid hb; clear hb)
  go_ret
  exact ⟨rfl, HB3.out⟩
set_option maxRecDepth 100000 in
set_option maxHeartbeats 6400000 in
theorem stEq_step {n : Nat} (hrow : ∀ (l r : List St) (v u : Value) (P : Nat → Prop) (W : World), StR P n W l v → StR P n W r u → (∀ b, P b → b < W.heap.size) → Calls Tryz.prog 58 #[v, u, .func (.func 59) #[] #[]] W (fun e w' => e = .returned (.bool (sameB l r)) ∧ Below W.heap.size W w')) :
    ∀ (e : List Ex) (A B : List St) (e' : List Ex) (A' B' : List St) (o nm : ByteArray) (a : Int) (o' nm' : ByteArray) (a' : Int) (ve vA vB ue uA uB : Value) (P : Nat → Prop) (W : World), ExR P n W e ve → StR P n W A vA → StR P n W B vB → ExR P n W e' ue → StR P n W A' uA → StR P n W B' uB → (∀ b, P b → b < W.heap.size) → Calls Tryz.prog 59 #[stV o nm ve vA vB a, stV o' nm' ue uA uB a'] W (fun r w' => r = .returned (.bool (sameSX o nm e A B o' nm' e' A' B')) ∧ Below W.heap.size W w') := by
  intro e A B e' A' B' o nm a o' nm' a' ve vA vB ue uA uB P W he hA hB he' hA' hB' hP
  obtain ⟨q, hq⟩ : ∃ q, q = sameL e e' := ⟨_, rfl⟩
  obtain ⟨q1, hq1⟩ : ∃ q, q = sameB A A' := ⟨_, rfl⟩
  obtain ⟨q2, hq2⟩ : ∃ q, q = sameB B B' := ⟨_, rfl⟩
  have HX : Hid (sameSX o nm e A B o' nm' e' A' B' = ((o.toList == o'.toList) && ((nm.toList == nm'.toList) && (q && (q1 && q2))))) := Lib.hid (by rw [hq, hq1, hq2]; rfl)
  have HC : Hid (∀ w2, Below W.heap.size W w2 → Calls Tryz.prog 93 #[ve, ue, .func (.func 94) #[] #[]] w2 (fun e w' => e = .returned (.bool q) ∧ Below w2.heap.size w2 w')) := Lib.hid fun w2 hb2 => by
    rw [hq]
    exact rowEq_any n _ _ _ _ P w2 (he.below hb2 hP) (he'.below hb2 hP) (lo_up hP hb2.size)
  have HC1 : Hid (∀ w2, Below W.heap.size W w2 → Calls Tryz.prog 31 #[vA, uA] w2 (fun e w' => e = .returned (.bool q1) ∧ Below w2.heap.size w2 w')) := Lib.hid fun w2 hb2 => by
    rw [hq1]
    exact sameBlock_step hrow _ _ _ _ P w2 (hA.below hb2 hP) (hA'.below hb2 hP) (lo_up hP hb2.size)
  have HC2 : Hid (∀ w2, Below W.heap.size W w2 → Calls Tryz.prog 31 #[vB, uB] w2 (fun e w' => e = .returned (.bool q2) ∧ Below w2.heap.size w2 w')) := Lib.hid fun w2 hb2 => by
    rw [hq2]
    exact sameBlock_step hrow _ _ _ _ P w2 (hB.below hb2 hP) (hB'.below hb2 hP) (lo_up hP hb2.size)
  obtain ⟨A1, c1, rfl, -, -⟩ := he.slice
  obtain ⟨A2, c2, rfl, -, -⟩ := hA.slice
  obtain ⟨A3, c3, rfl, -, -⟩ := hB.slice
  obtain ⟨A4, c4, rfl, -, -⟩ := he'.slice
  obtain ⟨A5, c5, rfl, -, -⟩ := hA'.slice
  obtain ⟨A6, c6, rfl, -, -⟩ := hB'.slice
  have HK1 : Hid (Blk ((W.alloc (.cells #[.string o, .string nm, .slice A1 e.length c1, .slice A2 A.length c2, .slice A3 B.length c3, .int .i64 a] 116)).alloc (.cells #[.string o', .string nm', .slice A4 e'.length c4, .slice A5 A'.length c5, .slice A6 B'.length c6, .int .i64 a'] 116)) W.heap.size 116 #[.string o, .string nm, .slice A1 e.length c1, .slice A2 A.length c2, .slice A3 B.length c3, .int .i64 a]) := Lib.hid ((Blk.new W _ _).below ((Below.refl _ _).alloc (Nat.le_refl _) _) (Blk.new W _ _).lt)
  have HK2 : Hid (Blk ((W.alloc (.cells #[.string o, .string nm, .slice A1 e.length c1, .slice A2 A.length c2, .slice A3 B.length c3, .int .i64 a] 116)).alloc (.cells #[.string o', .string nm', .slice A4 e'.length c4, .slice A5 A'.length c5, .slice A6 B'.length c6, .int .i64 a'] 116)) (W.heap.size + 1) 116 #[.string o', .string nm', .slice A4 e'.length c4, .slice A5 A'.length c5, .slice A6 B'.length c6, .int .i64 a']) := Lib.hid (by
    have := Blk.new (W.alloc (.cells #[.string o, .string nm, .slice A1 e.length c1, .slice A2 A.length c2, .slice A3 B.length c3, .int .i64 a] 116)) 116 #[.string o', .string nm', .slice A4 e'.length c4, .slice A5 A'.length c5, .slice A6 B'.length c6, .int .i64 a']
    rw [World.size_alloc] at this
    exact this)
  have HB : Hid (Below W.heap.size W ((W.alloc (.cells #[.string o, .string nm, .slice A1 e.length c1, .slice A2 A.length c2, .slice A3 B.length c3, .int .i64 a] 116)).alloc (.cells #[.string o', .string nm', .slice A4 e'.length c4, .slice A5 A'.length c5, .slice A6 B'.length c6, .int .i64 a'] 116))) := Lib.hid (thru ((Below.refl _ _).alloc (Nat.le_refl _) _) ((Below.refl _ _).alloc (Nat.le_refl _) _))
  rw [HX.out]
  clear he hA hB he' hA' hB' hq hq1 hq2 hrow hP
  obtain ⟨W0, hW0⟩ : ∃ W0, W0 = ((W.alloc (.cells #[.string o, .string nm, .slice A1 e.length c1, .slice A2 A.length c2, .slice A3 B.length c3, .int .i64 a] 116)).alloc (.cells #[.string o', .string nm', .slice A4 e'.length c4, .slice A5 A'.length c5, .slice A6 B'.length c6, .int .i64 a'] 116)) := ⟨_, rfl⟩
  rw [← hW0] at HK1 HK2 HB
  have HW0 := Lib.hid hW0
  clear hW0
  have x0 := HK1.out.cell 0
  have x1 := HK1.out.cell 1
  have x2 := HK1.out.cell 2
  have x3 := HK1.out.cell 3
  have x4 := HK1.out.cell 4
  have y0 := HK2.out.cell 0
  have y1 := HK2.out.cell 1
  have y2 := HK2.out.cell 2
  have y3 := HK2.out.cell 3
  have y4 := HK2.out.cell 4
  simp at x0 x1 x2 x3 x4 y0 y1 y2 y3 y4
  have HCell : Hid (∀ w', Below W0.heap.size W0 w' → (w'.cell? ⟨W.heap.size, 3, none⟩ = some (.slice A2 A.length c2) ∧ w'.cell? ⟨W.heap.size, 4, none⟩ = some (.slice A3 B.length c3)) ∧ w'.cell? ⟨W.heap.size + 1, 3, none⟩ = some (.slice A5 A'.length c5) ∧ w'.cell? ⟨W.heap.size + 1, 4, none⟩ = some (.slice A6 B'.length c6)) := Lib.hid fun w' hb => ⟨⟨(HK1.out.below hb HK1.out.lt).cell 3, (HK1.out.below hb HK1.out.lt).cell 4⟩, (HK2.out.below hb HK2.out.lt).cell 3, (HK2.out.below hb HK2.out.lt).cell 4⟩
  cases b1 : (o.toList == o'.toList)
  · go_enter Tryz.func59, Tryz.ntmps59
    go_upto_region 1 with fail
    rw [← HW0.out]
    go_wp2
    go_ret
    exact ⟨rfl, HB.out⟩
  · cases b2 : (nm.toList == nm'.toList)
    · go_enter Tryz.func59, Tryz.ntmps59
      go_upto_region 1 with fail
      rw [← HW0.out]
      go_wp2
      go_ret
      exact ⟨rfl, HB.out⟩
    · cases q <;> cases q1
      all_goals
        go_enter Tryz.func59, Tryz.ntmps59
        go_upto_region 1 with fail
        rw [← HW0.out]
        go_wp2_with (first
          | (go_at_call 93; with_reducible refine (HC.out _ HB.out).mono ?_; rintro e w1 ⟨rfl, hb⟩; have HB3 := Lib.hid (thru HB.out hb); have HD := Lib.hid hb; obtain ⟨⟨p3, p4⟩, p5, p6⟩ := HCell.out _ hb; clear hb x0 x1 x2 x3 x4 y0 y1 y2 y3 y4)
          | (go_at_call 31; with_reducible refine (HC1.out _ HB3.out).mono ?_; rintro e w2 ⟨rfl, hb⟩; have HB4 := Lib.hid (thru HB3.out hb); obtain ⟨⟨r3, r4⟩, r5, r6⟩ := HCell.out _ (thru HD.out hb); clear hb p3 p4 p5 p6)
          | (go_at_call 31; with_reducible refine (HC2.out _ HB4.out).mono ?_; rintro e w3 ⟨rfl, hb⟩; have HB5 := Lib.hid (thru HB4.out hb); clear hb))
        go_ret
        first
          | exact ⟨rfl, HB5.out⟩
          | exact ⟨rfl, HB4.out⟩
          | exact ⟨rfl, HB3.out⟩
/-- Rows of statements, side by side. -/
theorem blkEq_any (n : Nat) : ∀ (l r : List St) (v u : Value) (P : Nat → Prop) (W : World), StR P n W l v → StR P n W r u → (∀ b, P b → b < W.heap.size) → Calls Tryz.prog 58 #[v, u, .func (.func 59) #[] #[]] W (fun e w' => e = .returned (.bool (sameB l r)) ∧ Below W.heap.size W w') := by
  induction n with
  | zero => intro l r v u P W h; exact h.elim
  | succ n ih => exact blkEq_step (stEq_step ih)
theorem sameBlock_any (n : Nat) : ∀ (l r : List St) (v u : Value) (P : Nat → Prop) (W : World), StR P n W l v → StR P n W r u → (∀ b, P b → b < W.heap.size) → Calls Tryz.prog 31 #[v, u] W (fun e w' => e = .returned (.bool (sameB l r)) ∧ Below W.heap.size W w') := sameBlock_step (blkEq_any n)
end
end Go.Proofs.YteaongdlbleehaaGreatDoor

/- The tree layer: programs as they lie in memory; how great they are; what is the same. -/
namespace Go.Proofs.YteaongdlbleehaaGreatDoor
open Go.RowKit
/-- A row of texts. -/
def StrR (P : Nat → Prop) (w : World) (l : List ByteArray) (v : Value) : Prop :=
  ∃ A cap, v = .slice A l.length cap ∧ l.length ≤ cap ∧ l.length * 16 ≤ 140737488355328 ∧ ∀ (i : Nat) (x : ByteArray), l[i]? = some x → ∃ b off, A = some ⟨b, off, none⟩ ∧ P b ∧ w.cell? ⟨b, off + i, none⟩ = some (.string x)
/-- Rows of enums, variables, procedures. -/
def EnR (P : Nat → Prop) (w : World) (l : List (ByteArray × List ByteArray)) (v : Value) : Prop :=
  ∃ A cap, v = .slice A l.length cap ∧ l.length ≤ cap ∧ l.length * 40 ≤ 140737488355328 ∧ ∀ (i : Nat) (x : ByteArray × List ByteArray), l[i]? = some x → ∃ b off L, A = some ⟨b, off, none⟩ ∧ P b ∧ (w.cell? ⟨b, off + i * 2, none⟩ = some (.string x.1) ∧ w.cell? ⟨b, off + i * 2 + 1, none⟩ = some L) ∧ StrR P w x.2 L
def VaR (P : Nat → Prop) (w : World) (l : List (ByteArray × ByteArray × Int)) (v : Value) : Prop :=
  ∃ A cap, v = .slice A l.length cap ∧ l.length ≤ cap ∧ l.length * 40 ≤ 140737488355328 ∧ ∀ (i : Nat) (x : ByteArray × ByteArray × Int), l[i]? = some x → ∃ b off, A = some ⟨b, off, none⟩ ∧ P b ∧ (w.cell? ⟨b, off + i * 3, none⟩ = some (.string x.1) ∧ w.cell? ⟨b, off + i * 3 + 1, none⟩ = some (.string x.2.1) ∧ w.cell? ⟨b, off + i * 3 + 2, none⟩ = some (.int .i64 x.2.2)) ∧ In64 x.2.2
def PrR (P : Nat → Prop) (n : Nat) (w : World) (l : List (ByteArray × List St)) (v : Value) : Prop :=
  ∃ A cap, v = .slice A l.length cap ∧ l.length ≤ cap ∧ l.length * 40 ≤ 140737488355328 ∧ ∀ (i : Nat) (x : ByteArray × List St), l[i]? = some x → ∃ b off L, A = some ⟨b, off, none⟩ ∧ P b ∧ (w.cell? ⟨b, off + i * 2, none⟩ = some (.string x.1) ∧ w.cell? ⟨b, off + i * 2 + 1, none⟩ = some L) ∧ StR P n w x.2 L
abbrev pgV (vE vV vP vM : Value) : Value := .agg #[vE, vV, vP, vM]
/-- A program. -/
structure PgR (P : Nat → Prop) (n : Nat) (w : World) (p : Pg) (vE vV vP vM : Value) : Prop where
  en : EnR P w p.enums vE
  va : VaR P w p.vars vV
  pr : PrR P n w p.procs vP
  mn : StR P n w p.main vM
section
variable {P P' : Nat → Prop} {n B : Nat} {w w' : World} {v : Value}
theorem keep2 {b o : Nat} {x y : Value} (h : w.cell? ⟨b, o, none⟩ = some x ∧ w.cell? ⟨b, o + 1, none⟩ = some y) (hk : w'.heap[b]? = w.heap[b]?) : w'.cell? ⟨b, o, none⟩ = some x ∧ w'.cell? ⟨b, o + 1, none⟩ = some y := by
  have q : ∀ o, w'.cell? ⟨b, o, none⟩ = w.cell? ⟨b, o, none⟩ := fun o => World.cell?_of_block hk
  rw [q, q]; exact h
theorem keep3 {b o : Nat} {x y z : Value} (h : w.cell? ⟨b, o, none⟩ = some x ∧ w.cell? ⟨b, o + 1, none⟩ = some y ∧ w.cell? ⟨b, o + 2, none⟩ = some z) (hk : w'.heap[b]? = w.heap[b]?) : w'.cell? ⟨b, o, none⟩ = some x ∧ w'.cell? ⟨b, o + 1, none⟩ = some y ∧ w'.cell? ⟨b, o + 2, none⟩ = some z := by
  have q : ∀ o, w'.cell? ⟨b, o, none⟩ = w.cell? ⟨b, o, none⟩ := fun o => World.cell?_of_block hk
  rw [q, q, q]; exact h
theorem StrR.kept {l : List ByteArray} (h : StrR P w l v) (hk : ∀ b, P b → w'.heap[b]? = w.heap[b]?) : StrR P w' l v := by
  obtain ⟨A, cap, h1, h2, h3, h4⟩ := h
  refine ⟨A, cap, h1, h2, h3, fun i x hx => ?_⟩
  obtain ⟨b, off, e1, e2, e3⟩ := h4 i x hx
  exact ⟨b, off, e1, e2, (World.cell?_of_block (a := ⟨b, off + i, none⟩) (hk b e2)).trans e3⟩
theorem StrR.wide {l : List ByteArray} (hP : ∀ b, P b → P' b) (h : StrR P w l v) : StrR P' w l v := by
  obtain ⟨A, cap, h1, h2, h3, h4⟩ := h
  refine ⟨A, cap, h1, h2, h3, fun i x hx => ?_⟩
  obtain ⟨b, off, e1, e2, e3⟩ := h4 i x hx
  exact ⟨b, off, e1, hP b e2, e3⟩
theorem EnR.kept {l : List (ByteArray × List ByteArray)} (h : EnR P w l v) (hk : ∀ b, P b → w'.heap[b]? = w.heap[b]?) : EnR P w' l v := by
  obtain ⟨A, cap, h1, h2, h3, h4⟩ := h
  refine ⟨A, cap, h1, h2, h3, fun i x hx => ?_⟩
  obtain ⟨b, off, L, e1, e2, e3, e4⟩ := h4 i x hx
  exact ⟨b, off, L, e1, e2, keep2 e3 (hk b e2), e4.kept hk⟩
theorem EnR.wide {l : List (ByteArray × List ByteArray)} (hP : ∀ b, P b → P' b) (h : EnR P w l v) : EnR P' w l v := by
  obtain ⟨A, cap, h1, h2, h3, h4⟩ := h
  refine ⟨A, cap, h1, h2, h3, fun i x hx => ?_⟩
  obtain ⟨b, off, L, e1, e2, e3, e4⟩ := h4 i x hx
  exact ⟨b, off, L, e1, hP b e2, e3, e4.wide hP⟩
theorem VaR.kept {l : List (ByteArray × ByteArray × Int)} (h : VaR P w l v) (hk : ∀ b, P b → w'.heap[b]? = w.heap[b]?) : VaR P w' l v := by
  obtain ⟨A, cap, h1, h2, h3, h4⟩ := h
  refine ⟨A, cap, h1, h2, h3, fun i x hx => ?_⟩
  obtain ⟨b, off, e1, e2, e3, e4⟩ := h4 i x hx
  exact ⟨b, off, e1, e2, keep3 e3 (hk b e2), e4⟩
theorem VaR.wide {l : List (ByteArray × ByteArray × Int)} (hP : ∀ b, P b → P' b) (h : VaR P w l v) : VaR P' w l v := by
  obtain ⟨A, cap, h1, h2, h3, h4⟩ := h
  refine ⟨A, cap, h1, h2, h3, fun i x hx => ?_⟩
  obtain ⟨b, off, e1, e2, e3, e4⟩ := h4 i x hx
  exact ⟨b, off, e1, hP b e2, e3, e4⟩
theorem PrR.kept {l : List (ByteArray × List St)} (h : PrR P n w l v) (hk : ∀ b, P b → w'.heap[b]? = w.heap[b]?) : PrR P n w' l v := by
  obtain ⟨A, cap, h1, h2, h3, h4⟩ := h
  refine ⟨A, cap, h1, h2, h3, fun i x hx => ?_⟩
  obtain ⟨b, off, L, e1, e2, e3, e4⟩ := h4 i x hx
  exact ⟨b, off, L, e1, e2, keep2 e3 (hk b e2), e4.kept hk⟩
theorem PrR.wide {l : List (ByteArray × List St)} (hP : ∀ b, P b → P' b) (h : PrR P n w l v) : PrR P' n w l v := by
  obtain ⟨A, cap, h1, h2, h3, h4⟩ := h
  refine ⟨A, cap, h1, h2, h3, fun i x hx => ?_⟩
  obtain ⟨b, off, L, e1, e2, e3, e4⟩ := h4 i x hx
  exact ⟨b, off, L, e1, hP b e2, e3, e4.wide hP⟩
theorem PrR.le {m : Nat} (hm : n ≤ m) {l : List (ByteArray × List St)} (h : PrR P n w l v) : PrR P m w l v := by
  obtain ⟨A, cap, h1, h2, h3, h4⟩ := h
  refine ⟨A, cap, h1, h2, h3, fun i x hx => ?_⟩
  obtain ⟨b, off, L, e1, e2, e3, e4⟩ := h4 i x hx
  exact ⟨b, off, L, e1, e2, e3, e4.le hm⟩
theorem StrR.slice {l : List ByteArray} (h : StrR P w l v) : ∃ A cap, v = .slice A l.length cap ∧ l.length ≤ cap ∧ l.length * 16 ≤ 140737488355328 := by
  obtain ⟨A, cap, h1, h2, h3, -⟩ := h; exact ⟨A, cap, h1, h2, h3⟩
theorem EnR.slice {l : List (ByteArray × List ByteArray)} (h : EnR P w l v) : ∃ A cap, v = .slice A l.length cap ∧ l.length ≤ cap ∧ l.length * 40 ≤ 140737488355328 := by
  obtain ⟨A, cap, h1, h2, h3, -⟩ := h; exact ⟨A, cap, h1, h2, h3⟩
theorem VaR.slice {l : List (ByteArray × ByteArray × Int)} (h : VaR P w l v) : ∃ A cap, v = .slice A l.length cap ∧ l.length ≤ cap ∧ l.length * 40 ≤ 140737488355328 := by
  obtain ⟨A, cap, h1, h2, h3, -⟩ := h; exact ⟨A, cap, h1, h2, h3⟩
theorem PrR.slice {l : List (ByteArray × List St)} (h : PrR P n w l v) : ∃ A cap, v = .slice A l.length cap ∧ l.length ≤ cap ∧ l.length * 40 ≤ 140737488355328 := by
  obtain ⟨A, cap, h1, h2, h3, -⟩ := h; exact ⟨A, cap, h1, h2, h3⟩
variable {p : Pg} {vE vV vP vM : Value}
theorem PgR.kept (h : PgR P n w p vE vV vP vM) (hk : ∀ b, P b → w'.heap[b]? = w.heap[b]?) : PgR P n w' p vE vV vP vM := ⟨h.en.kept hk, h.va.kept hk, h.pr.kept hk, h.mn.kept hk⟩
theorem PgR.wide (hP : ∀ b, P b → P' b) (h : PgR P n w p vE vV vP vM) : PgR P' n w p vE vV vP vM := ⟨h.en.wide hP, h.va.wide hP, h.pr.wide hP, h.mn.wide hP⟩
theorem PgR.below (h : PgR P n w p vE vV vP vM) (hb : Below B w w') (hP : ∀ b, P b → b < B) : PgR P n w' p vE vV vP vM := h.kept fun b q => hb.block b (hP b q)
theorem PgR.le {m : Nat} (hm : n ≤ m) (h : PgR P n w p vE vV vP vM) : PgR P m w p vE vV vP vM := ⟨h.en, h.va, h.pr.le hm, h.mn.le hm⟩
end
/-! ### The same -/
def sameVr (a b : ByteArray × ByteArray × Int) : Bool := (a.1.toList == b.1.toList) && ((a.2.1.toList == b.2.1.toList) && (a.2.2 == b.2.2))
def sameSt (a b : ByteArray) : Bool := a.toList == b.toList
def sameEn (a b : ByteArray × List ByteArray) : Bool := (a.1.toList == b.1.toList) && sameF sameSt a.2 b.2
def samePr (a b : ByteArray × List St) : Bool := (a.1.toList == b.1.toList) && sameB a.2 b.2
def samePg (p q : Pg) : Bool := sameF sameEn p.enums q.enums && (sameF sameVr p.vars q.vars && (sameF samePr p.procs q.procs && sameB p.main q.main))
theorem guardV : Tryz.prog.eqGuardType Tryz.prog.depth 70 = false := by kernel_rfl
theorem heldV : Tryz.prog.stoodInHeld 70 = false := by kernel_rfl
theorem neVr (x y x' y' : ByteArray) (k k' : Int) (w : World) : (binOp .neq 70 (.agg #[.string x, .string y, .int .i64 k]) (.agg #[.string x', .string y', .int .i64 k'])).run Tryz.prog w = .ok (.bool (!sameVr (x, y, k) (x', y', k'))) w := by
  rw [run_neq_struct]
  have : (Op.equalIn 10000 70 (.agg #[.string x, .string y, .int .i64 k]) (.agg #[.string x', .string y', .int .i64 k'])).run Tryz.prog w = .ok (sameVr (x, y, k) (x', y', k')) w := by
    rw [run_equalIn_struct w 9999 70 _ _ (by unfold Program.fieldsOf; rw [Tryz.underlying70]) heldV]
    unfold sameVr
    cases h1 : (x.toList == x'.toList) <;> cases h2 : (y.toList == y'.toList) <;> cases h3 : (k == k') <;> simp [Program.fieldsOf, Tryz.underlying70, Op.eqFields, part, go_sem, h1, h2, h3, Tryz.underlying3, Tryz.underlying9]
  rw [this]; rfl
theorem eqgV (op : BinOp) (x y : Operand) (xs ys : Array Value) (w : World) : (eqGuard op 70 x y (.agg xs) (.agg ys)).run Tryz.prog w = .ok () w := run_eqGuard_agg w op 70 x y xs ys guardV
attribute [local go_sem ↓] neVr eqgV
section
variable {W : World}
set_option maxRecDepth 100000 in
set_option maxHeartbeats 6400000 in
theorem eqStrs_any (l r : List ByteArray) (v u : Value) (P : Nat → Prop) (W : World) (hv : StrR P W l v) (hu : StrR P W r u) (hP : ∀ b, P b → b < W.heap.size) : Calls Tryz.prog 57 #[v, u] W (fun e w' => e = .returned (.bool (sameF sameSt l r)) ∧ Below W.heap.size W w') := by
  obtain ⟨A1, cap1, rfl, hc1, hl1, hat1⟩ := hv
  obtain ⟨A2, cap2, rfl, hc2, hl2, hat2⟩ := hu
  have HA1 := Lib.hid hat1
  have HA2 := Lib.hid hat2
  have hl3 : l.length ≤ 140737488355328 := by omega
  have hl4 : r.length ≤ 140737488355328 := by omega
  clear hat1 hat2 hl1 hl2
  by_cases hlen : l.length = r.length
  · have hneq : ((l.length : Int) != (r.length : Int)) = false := by rw [hlen]; simp
    obtain ⟨m, hm⟩ : ∃ m, r.length = m := ⟨_, rfl⟩
    rw [hm] at hlen hneq hl4 hc2 ⊢
    have HM1 := Lib.hid hlen
    have HM2 := Lib.hid hm
    rw [hlen] at hl3 hc1 hneq ⊢
    clear hm hlen
    go_enter Tryz.func57, Tryz.ntmps57
    go_wp2
    go_loopw [13] (fun i wr => ∃ k : Nat, i = .int .i64 (k : Int) ∧ k ≤ m ∧ Hid (sameF sameSt (l.drop k) (r.drop k) = sameF sameSt l r) ∧ Below W.heap.size W wr) (fun i _ => m - (RowKit.intOf i).toNat)
    case atStart => exact ⟨0, rfl, Nat.zero_le _, Lib.hid rfl, Below.refl _ _⟩
    case round =>
      obtain ⟨k, rfl, hk, HEq, hbw⟩ := hrel
      by_cases hlt : k < m
      · obtain ⟨x, hx⟩ : ∃ x, l[k]? = some x := ⟨l[k]'(by rw [HM1.out]; exact hlt), List.getElem?_eq_getElem _⟩
        obtain ⟨y, hy⟩ : ∃ y, r[k]? = some y := ⟨r[k]'(by rw [HM2.out]; exact hlt), List.getElem?_eq_getElem _⟩
        obtain ⟨b1, off1, rfl, hbB1, x0⟩ := HA1.out k x hx
        obtain ⟨b2, off2, rfl, hbB2, y0⟩ := HA2.out k y hy
        rw [← hbw.cell (p := ⟨b1, off1 + k, none⟩) (hP b1 hbB1)] at x0
        rw [← hbw.cell (p := ⟨b2, off2 + k, none⟩) (hP b2 hbB2)] at y0
        obtain ⟨q, hq⟩ : ∃ q, q = sameSt x y := ⟨_, rfl⟩
        have HBw := Lib.hid hbw
        have HSt : Hid (sameF sameSt (l.drop k) (r.drop k) = (q && sameF sameSt (l.drop (k + 1)) (r.drop (k + 1)))) := Lib.hid ((sameF_at _ hx hy).trans (by rw [hq]))
        unfold sameSt at hq
        clear hbw hx hy
        cases q
        · have hq2 := hq.symm
          clear hq
          go_wp2_with fail
          go_quiet (fail)
          go_wp2_with fail
          go_ret
          exact ⟨ret_bool (by rw [← HEq.out, HSt.out, Bool.false_and]), HBw.out.trans ⟨rfl, rfl, rfl, Nat.le_refl _, fun _ _ => rfl⟩⟩
        · have hq2 := hq.symm
          clear hq
          go_wp2_with fail
          go_quiet (fail)
          go_wp2_with fail
          go_roundw
          case rel => exact ⟨k + 1, by go_num, hlt, Lib.hid (by rw [← HEq.out, HSt.out, Bool.true_and]), HBw.out.trans ⟨rfl, rfl, rfl, Nat.le_refl _, fun _ _ => rfl⟩⟩
          case measure => simp [RowKit.intOf]; omega
      · have he : k = m := by omega
        subst he
        have HT : Hid (sameF sameSt l r = true) := Lib.hid (by rw [← HEq.out, List.drop_eq_nil_of_le (by rw [HM1.out]; exact Nat.le_refl _), List.drop_eq_nil_of_le (by rw [HM2.out]; exact Nat.le_refl _)]; rfl)
        go_wp2_with fail
        go_ret
        exact ⟨ret_bool HT.out.symm, hbw⟩
  · have hneq : ((l.length : Int) != (r.length : Int)) = true := by simp; omega
    have HF : Hid (sameF sameSt l r = false) := Lib.hid (sameF_len _ hlen)
    clear hlen
    go_enter Tryz.func57, Tryz.ntmps57
    go_wp2
    go_ret
    exact ⟨ret_bool HF.out.symm, Below.refl _ _⟩
set_option maxRecDepth 100000 in
set_option maxHeartbeats 6400000 in
theorem eqVars_any (l r : List (ByteArray × ByteArray × Int)) (v u : Value) (P : Nat → Prop) (W : World) (hv : VaR P W l v) (hu : VaR P W r u) (hP : ∀ b, P b → b < W.heap.size) : Calls Tryz.prog 28 #[v, u] W (fun e w' => e = .returned (.bool (sameF sameVr l r)) ∧ Below W.heap.size W w') := by
  obtain ⟨A1, cap1, rfl, hc1, hl1, hat1⟩ := hv
  obtain ⟨A2, cap2, rfl, hc2, hl2, hat2⟩ := hu
  have HA1 := Lib.hid hat1
  have HA2 := Lib.hid hat2
  have hl3 : l.length ≤ 140737488355328 := by omega
  have hl4 : r.length ≤ 140737488355328 := by omega
  clear hat1 hat2 hl1 hl2
  by_cases hlen : l.length = r.length
  · have hneq : ((l.length : Int) != (r.length : Int)) = false := by rw [hlen]; simp
    obtain ⟨m, hm⟩ : ∃ m, r.length = m := ⟨_, rfl⟩
    rw [hm] at hlen hneq hl4 hc2 ⊢
    have HM1 := Lib.hid hlen
    have HM2 := Lib.hid hm
    rw [hlen] at hl3 hc1 hneq ⊢
    clear hm hlen
    go_enter Tryz.func28, Tryz.ntmps28
    go_wp2
    go_loopw [13] (fun i wr => ∃ k : Nat, i = .int .i64 (k : Int) ∧ k ≤ m ∧ Hid (sameF sameVr (l.drop k) (r.drop k) = sameF sameVr l r) ∧ Below W.heap.size W wr) (fun i _ => m - (RowKit.intOf i).toNat)
    case atStart => exact ⟨0, rfl, Nat.zero_le _, Lib.hid rfl, Below.refl _ _⟩
    case round =>
      obtain ⟨k, rfl, hk, HEq, hbw⟩ := hrel
      by_cases hlt : k < m
      · obtain ⟨x, hx⟩ : ∃ x, l[k]? = some x := ⟨l[k]'(by rw [HM1.out]; exact hlt), List.getElem?_eq_getElem _⟩
        obtain ⟨y, hy⟩ : ∃ y, r[k]? = some y := ⟨r[k]'(by rw [HM2.out]; exact hlt), List.getElem?_eq_getElem _⟩
        obtain ⟨b1, off1, rfl, hbB1, ha1, -⟩ := HA1.out k x hx
        obtain ⟨b2, off2, rfl, hbB2, ha2, -⟩ := HA2.out k y hy
        obtain ⟨x0, x1, x2⟩ := keep3 ha1 (hbw.block b1 (hP b1 hbB1))
        obtain ⟨y0, y1, y2⟩ := keep3 ha2 (hbw.block b2 (hP b2 hbB2))
        obtain ⟨xa, xb, xc⟩ := x
        obtain ⟨ya, yb, yc⟩ := y
        obtain ⟨q, hq⟩ : ∃ q, q = sameVr (xa, xb, xc) (ya, yb, yc) := ⟨_, rfl⟩
        clear ha1 ha2
        simp only at x0 x1 x2 y0 y1 y2
        have HBw := Lib.hid hbw
        have HSt : Hid (sameF sameVr (l.drop k) (r.drop k) = (q && sameF sameVr (l.drop (k + 1)) (r.drop (k + 1)))) := Lib.hid ((sameF_at _ hx hy).trans (by rw [hq]))
        clear hbw hx hy
        cases q
        · have hq2 := hq.symm
          clear hq
          go_wp2_with fail
          go_quiet (fail)
          go_wp2_with fail
          go_ret
          exact ⟨ret_bool (by rw [← HEq.out, HSt.out, Bool.false_and]), HBw.out.trans ⟨rfl, rfl, rfl, Nat.le_refl _, fun _ _ => rfl⟩⟩
        · have hq2 := hq.symm
          clear hq
          go_wp2_with fail
          go_quiet (fail)
          go_wp2_with fail
          go_roundw
          case rel => exact ⟨k + 1, by go_num, hlt, Lib.hid (by rw [← HEq.out, HSt.out, Bool.true_and]), HBw.out.trans ⟨rfl, rfl, rfl, Nat.le_refl _, fun _ _ => rfl⟩⟩
          case measure => simp [RowKit.intOf]; omega
      · have he : k = m := by omega
        subst he
        have HT : Hid (sameF sameVr l r = true) := Lib.hid (by rw [← HEq.out, List.drop_eq_nil_of_le (by rw [HM1.out]; exact Nat.le_refl _), List.drop_eq_nil_of_le (by rw [HM2.out]; exact Nat.le_refl _)]; rfl)
        go_wp2_with fail
        go_ret
        exact ⟨ret_bool HT.out.symm, hbw⟩
  · have hneq : ((l.length : Int) != (r.length : Int)) = true := by simp; omega
    have HF : Hid (sameF sameVr l r = false) := Lib.hid (sameF_len _ hlen)
    clear hlen
    go_enter Tryz.func28, Tryz.ntmps28
    go_wp2
    go_ret
    exact ⟨ret_bool HF.out.symm, Below.refl _ _⟩
end
end Go.Proofs.YteaongdlbleehaaGreatDoor

/- The tree layer: enums, procedures, programs: what is the same. -/
namespace Go.Proofs.YteaongdlbleehaaGreatDoor
open Go.RowKit
section
variable {W : World}
set_option maxRecDepth 100000 in
set_option maxHeartbeats 3200000 in
theorem sameEnum_any  (x y : ByteArray × List ByteArray) (v u : Value) (P : Nat → Prop) (W : World) (hv : StrR P W x.2 v) (hu : StrR P W y.2 u) (hP : ∀ b, P b → b < W.heap.size) : Calls Tryz.prog 27 #[.agg #[.string x.1, v], .agg #[.string y.1, u]] W (fun e w' => e = .returned (.bool (sameEn x y)) ∧ Below W.heap.size W w') := by
  obtain ⟨q, hq⟩ : ∃ q, q = sameF sameSt x.2 y.2 := ⟨_, rfl⟩
  have HX : Hid (sameEn x y = ((x.1.toList == y.1.toList) && q)) := Lib.hid (by rw [hq]; rfl)
  have HC : Hid (∀ w2, Below W.heap.size W w2 → Calls Tryz.prog 57 #[v, u] w2 (fun e w' => e = .returned (.bool q) ∧ Below w2.heap.size w2 w')) := Lib.hid fun w2 hb2 => by
    rw [hq]
    exact eqStrs_any _ _ _ _ P w2 (hv.kept fun b q => hb2.block b (hP b q)) (hu.kept fun b q => hb2.block b (hP b q)) (lo_up hP hb2.size)
  obtain ⟨A1, c1, rfl, -, -⟩ := hv.slice
  obtain ⟨A2, c2, rfl, -, -⟩ := hu.slice
  have HB : Hid (Below W.heap.size W ((W.alloc (.cells #[.string x.1, .slice A1 x.2.length c1] 67)).alloc (.cells #[.string y.1, .slice A2 y.2.length c2] 67))) := Lib.hid (thru ((Below.refl _ _).alloc (Nat.le_refl _) _) ((Below.refl _ _).alloc (Nat.le_refl _) _))
  rw [HX.out]
  clear hv hu hq
  cases b1 : (x.1.toList == y.1.toList)
  · go_enter Tryz.func27, Tryz.ntmps27
    go_wp2
    go_ret
    exact ⟨rfl, HB.out⟩
  · go_enter Tryz.func27, Tryz.ntmps27
    go_wp2_with (go_at_call 57; with_reducible refine (HC.out _ HB.out).mono ?_; rintro e w1 ⟨rfl, hb⟩; have HB3 := Lib.hid (thru HB.out hb); clear hb)
    go_ret
    exact ⟨rfl, HB3.out⟩
set_option maxRecDepth 100000 in
set_option maxHeartbeats 3200000 in
theorem sameProc_any (n : Nat) (x y : ByteArray × List St) (v u : Value) (P : Nat → Prop) (W : World) (hv : StR P n W x.2 v) (hu : StR P n W y.2 u) (hP : ∀ b, P b → b < W.heap.size) : Calls Tryz.prog 30 #[.agg #[.string x.1, v], .agg #[.string y.1, u]] W (fun e w' => e = .returned (.bool (samePr x y)) ∧ Below W.heap.size W w') := by
  obtain ⟨q, hq⟩ : ∃ q, q = sameB x.2 y.2 := ⟨_, rfl⟩
  have HX : Hid (samePr x y = ((x.1.toList == y.1.toList) && q)) := Lib.hid (by rw [hq]; rfl)
  have HC : Hid (∀ w2, Below W.heap.size W w2 → Calls Tryz.prog 31 #[v, u] w2 (fun e w' => e = .returned (.bool q) ∧ Below w2.heap.size w2 w')) := Lib.hid fun w2 hb2 => by
    rw [hq]
    exact sameBlock_any n _ _ _ _ P w2 (hv.below hb2 hP) (hu.below hb2 hP) (lo_up hP hb2.size)
  obtain ⟨A1, c1, rfl, -, -⟩ := hv.slice
  obtain ⟨A2, c2, rfl, -, -⟩ := hu.slice
  have HB : Hid (Below W.heap.size W ((W.alloc (.cells #[.string x.1, .slice A1 x.2.length c1] 73)).alloc (.cells #[.string y.1, .slice A2 y.2.length c2] 73))) := Lib.hid (thru ((Below.refl _ _).alloc (Nat.le_refl _) _) ((Below.refl _ _).alloc (Nat.le_refl _) _))
  rw [HX.out]
  clear hv hu hq
  cases b1 : (x.1.toList == y.1.toList)
  · go_enter Tryz.func30, Tryz.ntmps30
    go_wp2
    go_ret
    exact ⟨rfl, HB.out⟩
  · go_enter Tryz.func30, Tryz.ntmps30
    go_wp2_with (go_at_call 31; with_reducible refine (HC.out _ HB.out).mono ?_; rintro e w1 ⟨rfl, hb⟩; have HB3 := Lib.hid (thru HB.out hb); clear hb)
    go_ret
    exact ⟨rfl, HB3.out⟩
set_option maxRecDepth 100000 in
set_option maxHeartbeats 6400000 in
theorem enumsEq_any  : ∀ (l r : List (ByteArray × List ByteArray)) (v u : Value) (P : Nat → Prop) (W : World), EnR P W l v → EnR P W r u → (∀ b, P b → b < W.heap.size) → Calls Tryz.prog 26 #[v, u, .func (.func 27) #[] #[]] W (fun e w' => e = .returned (.bool (sameF sameEn l r)) ∧ Below W.heap.size W w') := by
  intro l r v u P W hv hu hP
  obtain ⟨A1, cap1, rfl, hc1, hl1, hat1⟩ := hv
  obtain ⟨A2, cap2, rfl, hc2, hl2, hat2⟩ := hu
  have HA1 := Lib.hid hat1
  have HA2 := Lib.hid hat2
  have hl3 : l.length ≤ 140737488355328 := by omega
  have hl4 : r.length ≤ 140737488355328 := by omega
  clear hat1 hat2 hl1 hl2
  by_cases hlen : l.length = r.length
  · have hneq : ((l.length : Int) != (r.length : Int)) = false := by rw [hlen]; simp
    obtain ⟨m, hm⟩ : ∃ m, r.length = m := ⟨_, rfl⟩
    rw [hm] at hlen hneq hl4 hc2 ⊢
    have HM1 := Lib.hid hlen
    have HM2 := Lib.hid hm
    rw [hlen] at hl3 hc1 hneq ⊢
    clear hm hlen
    go_enter Tryz.func26, Tryz.ntmps26
    go_wp2
    go_loopw [17] (fun i wr => ∃ k : Nat, i = .int .i64 (k : Int) ∧ k ≤ m ∧ Hid (sameF sameEn (l.drop k) (r.drop k) = sameF sameEn l r) ∧ Below W.heap.size W wr) (fun i _ => m - (RowKit.intOf i).toNat)
    case atStart => exact ⟨0, rfl, Nat.zero_le _, Lib.hid rfl, Below.refl _ _⟩
    case round =>
      obtain ⟨k, rfl, hk, HEq, hbw⟩ := hrel
      by_cases hlt : k < m
      · obtain ⟨x, hx⟩ : ∃ x, l[k]? = some x := ⟨l[k]'(by rw [HM1.out]; exact hlt), List.getElem?_eq_getElem _⟩
        obtain ⟨y, hy⟩ : ∃ y, r[k]? = some y := ⟨r[k]'(by rw [HM2.out]; exact hlt), List.getElem?_eq_getElem _⟩
        obtain ⟨b1, off1, L1, rfl, hbB1, ha1, hr1⟩ := HA1.out k x hx
        obtain ⟨b2, off2, L2, rfl, hbB2, ha2, hr2⟩ := HA2.out k y hy
        obtain ⟨x0, x1⟩ := keep2 ha1 (hbw.block b1 (hP b1 hbB1))
        obtain ⟨y0, y1⟩ := keep2 ha2 (hbw.block b2 (hP b2 hbB2))
        obtain ⟨B1, c1, rfl, -, -⟩ := hr1.slice
        obtain ⟨B2, c2, rfl, -, -⟩ := hr2.slice
        obtain ⟨q, hq⟩ : ∃ q, q = sameEn x y := ⟨_, rfl⟩
        have HC : Hid (∀ w2, Below W.heap.size W w2 → Calls Tryz.prog 27 #[.agg #[.string x.1, .slice B1 x.2.length c1], .agg #[.string y.1, .slice B2 y.2.length c2]] w2 (fun e w' => e = .returned (.bool q) ∧ Below w2.heap.size w2 w')) := Lib.hid fun w2 hb2 => by
          rw [hq]
          exact sameEnum_any x y _ _ P w2 (hr1.kept fun b q => hb2.block b (hP b q)) (hr2.kept fun b q => hb2.block b (hP b q)) (lo_up hP hb2.size)
        clear ha1 ha2 hr1 hr2
        have hbw2 : b2 < wr.heap.size := lo_up hP hbw.size b2 hbB2
        have HBw := Lib.hid hbw
        have HB1 := Lib.hid ((Below.refl wr.heap.size wr).alloc (Nat.le_refl _) (.cells #[.string x.1, .slice B1 x.2.length c1] 67))
        have HB2 := Lib.hid (thru HB1.out ((Below.refl _ _).alloc (Nat.le_refl _) (.cells #[.string y.1, .slice B2 y.2.length c2] 67)))
        have HSt : Hid (sameF sameEn (l.drop k) (r.drop k) = (q && sameF sameEn (l.drop (k + 1)) (r.drop (k + 1)))) := Lib.hid (by
          exact (sameF_at _ hx hy).trans (by rw [hq]))
        clear hbw hx hy hq
        cases q
        · go_wp2_with (go_at_call 27; with_reducible refine (HC.out _ (thru HBw.out HB2.out)).mono ?_; rintro e w1 ⟨rfl, hb⟩; have HB3 := Lib.hid (thru HBw.out (thru HB2.out hb)); clear hb)
          go_ret
          exact ⟨ret_bool (by rw [← HEq.out, HSt.out, Bool.false_and]), HB3.out⟩
        · go_wp2_with (go_at_call 27; with_reducible refine (HC.out _ (thru HBw.out HB2.out)).mono ?_; rintro e w1 ⟨rfl, hb⟩; have HB3 := Lib.hid (thru HBw.out (thru HB2.out hb)); clear hb)
          go_roundw
          case rel => exact ⟨k + 1, by go_num, hlt, Lib.hid (by rw [← HEq.out, HSt.out, Bool.true_and]), HB3.out⟩
          case measure => simp [RowKit.intOf]; omega
      · have he : k = m := by omega
        subst he
        have HT : Hid (sameF sameEn l r = true) := Lib.hid (by rw [← HEq.out, List.drop_eq_nil_of_le (by rw [HM1.out]; exact Nat.le_refl _), List.drop_eq_nil_of_le (by rw [HM2.out]; exact Nat.le_refl _)]; rfl)
        go_wp2_with fail
        go_ret
        exact ⟨ret_bool HT.out.symm, hbw⟩
  · have hneq : ((l.length : Int) != (r.length : Int)) = true := by simp; omega
    have HF : Hid (sameF sameEn l r = false) := Lib.hid (by exact sameF_len _ hlen)
    clear hlen
    go_enter Tryz.func26, Tryz.ntmps26
    go_wp2
    go_ret
    exact ⟨ret_bool HF.out.symm, Below.refl _ _⟩
set_option maxRecDepth 100000 in
set_option maxHeartbeats 6400000 in
theorem procsEq_any (n : Nat) : ∀ (l r : List (ByteArray × List St)) (v u : Value) (P : Nat → Prop) (W : World), PrR P n W l v → PrR P n W r u → (∀ b, P b → b < W.heap.size) → Calls Tryz.prog 29 #[v, u, .func (.func 30) #[] #[]] W (fun e w' => e = .returned (.bool (sameF samePr l r)) ∧ Below W.heap.size W w') := by
  intro l r v u P W hv hu hP
  obtain ⟨A1, cap1, rfl, hc1, hl1, hat1⟩ := hv
  obtain ⟨A2, cap2, rfl, hc2, hl2, hat2⟩ := hu
  have HA1 := Lib.hid hat1
  have HA2 := Lib.hid hat2
  have hl3 : l.length ≤ 140737488355328 := by omega
  have hl4 : r.length ≤ 140737488355328 := by omega
  clear hat1 hat2 hl1 hl2
  by_cases hlen : l.length = r.length
  · have hneq : ((l.length : Int) != (r.length : Int)) = false := by rw [hlen]; simp
    obtain ⟨m, hm⟩ : ∃ m, r.length = m := ⟨_, rfl⟩
    rw [hm] at hlen hneq hl4 hc2 ⊢
    have HM1 := Lib.hid hlen
    have HM2 := Lib.hid hm
    rw [hlen] at hl3 hc1 hneq ⊢
    clear hm hlen
    go_enter Tryz.func29, Tryz.ntmps29
    go_wp2
    go_loopw [17] (fun i wr => ∃ k : Nat, i = .int .i64 (k : Int) ∧ k ≤ m ∧ Hid (sameF samePr (l.drop k) (r.drop k) = sameF samePr l r) ∧ Below W.heap.size W wr) (fun i _ => m - (RowKit.intOf i).toNat)
    case atStart => exact ⟨0, rfl, Nat.zero_le _, Lib.hid rfl, Below.refl _ _⟩
    case round =>
      obtain ⟨k, rfl, hk, HEq, hbw⟩ := hrel
      by_cases hlt : k < m
      · obtain ⟨x, hx⟩ : ∃ x, l[k]? = some x := ⟨l[k]'(by rw [HM1.out]; exact hlt), List.getElem?_eq_getElem _⟩
        obtain ⟨y, hy⟩ : ∃ y, r[k]? = some y := ⟨r[k]'(by rw [HM2.out]; exact hlt), List.getElem?_eq_getElem _⟩
        obtain ⟨b1, off1, L1, rfl, hbB1, ha1, hr1⟩ := HA1.out k x hx
        obtain ⟨b2, off2, L2, rfl, hbB2, ha2, hr2⟩ := HA2.out k y hy
        obtain ⟨x0, x1⟩ := keep2 ha1 (hbw.block b1 (hP b1 hbB1))
        obtain ⟨y0, y1⟩ := keep2 ha2 (hbw.block b2 (hP b2 hbB2))
        obtain ⟨B1, c1, rfl, -, -⟩ := hr1.slice
        obtain ⟨B2, c2, rfl, -, -⟩ := hr2.slice
        obtain ⟨q, hq⟩ : ∃ q, q = samePr x y := ⟨_, rfl⟩
        have HC : Hid (∀ w2, Below W.heap.size W w2 → Calls Tryz.prog 30 #[.agg #[.string x.1, .slice B1 x.2.length c1], .agg #[.string y.1, .slice B2 y.2.length c2]] w2 (fun e w' => e = .returned (.bool q) ∧ Below w2.heap.size w2 w')) := Lib.hid fun w2 hb2 => by
          rw [hq]
          exact sameProc_any n x y _ _ P w2 (hr1.below hb2 hP) (hr2.below hb2 hP) (lo_up hP hb2.size)
        clear ha1 ha2 hr1 hr2
        have hbw2 : b2 < wr.heap.size := lo_up hP hbw.size b2 hbB2
        have HBw := Lib.hid hbw
        have HB1 := Lib.hid ((Below.refl wr.heap.size wr).alloc (Nat.le_refl _) (.cells #[.string x.1, .slice B1 x.2.length c1] 73))
        have HB2 := Lib.hid (thru HB1.out ((Below.refl _ _).alloc (Nat.le_refl _) (.cells #[.string y.1, .slice B2 y.2.length c2] 73)))
        have HSt : Hid (sameF samePr (l.drop k) (r.drop k) = (q && sameF samePr (l.drop (k + 1)) (r.drop (k + 1)))) := Lib.hid (by
          exact (sameF_at _ hx hy).trans (by rw [hq]))
        clear hbw hx hy hq
        cases q
        · go_wp2_with (go_at_call 30; with_reducible refine (HC.out _ (thru HBw.out HB2.out)).mono ?_; rintro e w1 ⟨rfl, hb⟩; have HB3 := Lib.hid (thru HBw.out (thru HB2.out hb)); clear hb)
          go_ret
          exact ⟨ret_bool (by rw [← HEq.out, HSt.out, Bool.false_and]), HB3.out⟩
        · go_wp2_with (go_at_call 30; with_reducible refine (HC.out _ (thru HBw.out HB2.out)).mono ?_; rintro e w1 ⟨rfl, hb⟩; have HB3 := Lib.hid (thru HBw.out (thru HB2.out hb)); clear hb)
          go_roundw
          case rel => exact ⟨k + 1, by go_num, hlt, Lib.hid (by rw [← HEq.out, HSt.out, Bool.true_and]), HB3.out⟩
          case measure => simp [RowKit.intOf]; omega
      · have he : k = m := by omega
        subst he
        have HT : Hid (sameF samePr l r = true) := Lib.hid (by rw [← HEq.out, List.drop_eq_nil_of_le (by rw [HM1.out]; exact Nat.le_refl _), List.drop_eq_nil_of_le (by rw [HM2.out]; exact Nat.le_refl _)]; rfl)
        go_wp2_with fail
        go_ret
        exact ⟨ret_bool HT.out.symm, hbw⟩
  · have hneq : ((l.length : Int) != (r.length : Int)) = true := by simp; omega
    have HF : Hid (sameF samePr l r = false) := Lib.hid (by exact sameF_len _ hlen)
    clear hlen
    go_enter Tryz.func29, Tryz.ntmps29
    go_wp2
    go_ret
    exact ⟨ret_bool HF.out.symm, Below.refl _ _⟩
set_option maxRecDepth 100000 in
set_option maxHeartbeats 6400000 in
theorem same_any (n : Nat) (p r : Pg) (vE vV vP vM uE uV uP uM : Value) (P : Nat → Prop) (W : World) (hv : PgR P n W p vE vV vP vM) (hu : PgR P n W r uE uV uP uM) (hP : ∀ b, P b → b < W.heap.size) : Calls Tryz.prog 11 #[pgV vE vV vP vM, pgV uE uV uP uM] W (fun e w' => e = .returned (.bool (samePg p r)) ∧ Below W.heap.size W w') := by
  obtain ⟨q1, hq1⟩ : ∃ q, q = sameF sameEn p.enums r.enums := ⟨_, rfl⟩
  obtain ⟨q2, hq2⟩ : ∃ q, q = sameF sameVr p.vars r.vars := ⟨_, rfl⟩
  obtain ⟨q3, hq3⟩ : ∃ q, q = sameF samePr p.procs r.procs := ⟨_, rfl⟩
  obtain ⟨q4, hq4⟩ : ∃ q, q = sameB p.main r.main := ⟨_, rfl⟩
  have HX : Hid (samePg p r = (q1 && (q2 && (q3 && q4)))) := Lib.hid (by rw [hq1, hq2, hq3, hq4]; rfl)
  have HC1 : Hid (∀ w2, Below W.heap.size W w2 → Calls Tryz.prog 26 #[vE, uE, .func (.func 27) #[] #[]] w2 (fun e w' => e = .returned (.bool q1) ∧ Below w2.heap.size w2 w')) := Lib.hid fun w2 hb2 => by
    rw [hq1]
    exact enumsEq_any _ _ _ _ P w2 (hv.below hb2 hP).en (hu.below hb2 hP).en (lo_up hP hb2.size)
  have HC2 : Hid (∀ w2, Below W.heap.size W w2 → Calls Tryz.prog 28 #[vV, uV] w2 (fun e w' => e = .returned (.bool q2) ∧ Below w2.heap.size w2 w')) := Lib.hid fun w2 hb2 => by
    rw [hq2]
    exact eqVars_any _ _ _ _ P w2 (hv.below hb2 hP).va (hu.below hb2 hP).va (lo_up hP hb2.size)
  have HC3 : Hid (∀ w2, Below W.heap.size W w2 → Calls Tryz.prog 29 #[vP, uP, .func (.func 30) #[] #[]] w2 (fun e w' => e = .returned (.bool q3) ∧ Below w2.heap.size w2 w')) := Lib.hid fun w2 hb2 => by
    rw [hq3]
    exact procsEq_any n _ _ _ _ P w2 (hv.below hb2 hP).pr (hu.below hb2 hP).pr (lo_up hP hb2.size)
  have HC4 : Hid (∀ w2, Below W.heap.size W w2 → Calls Tryz.prog 31 #[vM, uM] w2 (fun e w' => e = .returned (.bool q4) ∧ Below w2.heap.size w2 w')) := Lib.hid fun w2 hb2 => by
    rw [hq4]
    exact sameBlock_any n _ _ _ _ P w2 (hv.below hb2 hP).mn (hu.below hb2 hP).mn (lo_up hP hb2.size)
  obtain ⟨A1, c1, rfl, -, -⟩ := hv.en.slice
  obtain ⟨A2, c2, rfl, -, -⟩ := hv.va.slice
  obtain ⟨A3, c3, rfl, -, -⟩ := hv.pr.slice
  obtain ⟨A4, c4, rfl, -, -⟩ := hv.mn.slice
  obtain ⟨B1, d1, rfl, -, -⟩ := hu.en.slice
  obtain ⟨B2, d2, rfl, -, -⟩ := hu.va.slice
  obtain ⟨B3, d3, rfl, -, -⟩ := hu.pr.slice
  obtain ⟨B4, d4, rfl, -, -⟩ := hu.mn.slice
  obtain ⟨W0, hW0⟩ : ∃ W0, W0 = ((W.alloc (.cells #[.slice A1 p.enums.length c1, .slice A2 p.vars.length c2, .slice A3 p.procs.length c3, .slice A4 p.main.length c4] 28)).alloc (.cells #[.slice B1 r.enums.length d1, .slice B2 r.vars.length d2, .slice B3 r.procs.length d3, .slice B4 r.main.length d4] 28)) := ⟨_, rfl⟩
  have HK1 : Hid (Blk W0 W.heap.size 28 #[.slice A1 p.enums.length c1, .slice A2 p.vars.length c2, .slice A3 p.procs.length c3, .slice A4 p.main.length c4]) := Lib.hid (by rw [hW0]; exact (Blk.new W _ _).below ((Below.refl _ _).alloc (Nat.le_refl _) _) (Blk.new W _ _).lt)
  have HK2 : Hid (Blk W0 (W.heap.size + 1) 28 #[.slice B1 r.enums.length d1, .slice B2 r.vars.length d2, .slice B3 r.procs.length d3, .slice B4 r.main.length d4]) := Lib.hid (by
    have := Blk.new (W.alloc (.cells #[.slice A1 p.enums.length c1, .slice A2 p.vars.length c2, .slice A3 p.procs.length c3, .slice A4 p.main.length c4] 28)) 28 #[.slice B1 r.enums.length d1, .slice B2 r.vars.length d2, .slice B3 r.procs.length d3, .slice B4 r.main.length d4]
    rw [World.size_alloc] at this
    rw [hW0]
    exact this)
  have HB : Hid (Below W.heap.size W W0) := Lib.hid (by rw [hW0]; exact thru ((Below.refl _ _).alloc (Nat.le_refl _) _) ((Below.refl _ _).alloc (Nat.le_refl _) _))
  have HW0 := Lib.hid hW0
  rw [HX.out]
  clear hv hu hq1 hq2 hq3 hq4 hW0 hP
  have x0 := HK1.out.cell 0
  have y0 := HK2.out.cell 0
  simp at x0 y0
  have HCell : Hid (∀ w', Below W0.heap.size W0 w' → (w'.cell? ⟨W.heap.size, 1, none⟩ = some (.slice A2 p.vars.length c2) ∧ w'.cell? ⟨W.heap.size, 2, none⟩ = some (.slice A3 p.procs.length c3) ∧ w'.cell? ⟨W.heap.size, 3, none⟩ = some (.slice A4 p.main.length c4)) ∧ w'.cell? ⟨W.heap.size + 1, 1, none⟩ = some (.slice B2 r.vars.length d2) ∧ w'.cell? ⟨W.heap.size + 1, 2, none⟩ = some (.slice B3 r.procs.length d3) ∧ w'.cell? ⟨W.heap.size + 1, 3, none⟩ = some (.slice B4 r.main.length d4)) := Lib.hid fun w' hb => ⟨⟨(HK1.out.below hb HK1.out.lt).cell 1, (HK1.out.below hb HK1.out.lt).cell 2, (HK1.out.below hb HK1.out.lt).cell 3⟩, (HK2.out.below hb HK2.out.lt).cell 1, (HK2.out.below hb HK2.out.lt).cell 2, (HK2.out.below hb HK2.out.lt).cell 3⟩
  cases q1 <;> cases q2 <;> cases q3
  all_goals
    go_enter Tryz.func11, Tryz.ntmps11
    go_upto_region 1 with fail
    rw [← HW0.out]
    go_wp2_with (first
      | (go_at_call 26; with_reducible refine (HC1.out _ HB.out).mono ?_; rintro e w1 ⟨rfl, hb⟩; have HB3 := Lib.hid (thru HB.out hb); have HD3 := Lib.hid hb; obtain ⟨⟨p1, p2, p3⟩, p4, p5, p6⟩ := HCell.out _ hb; clear hb x0 y0)
      | (go_at_call 28; with_reducible refine (HC2.out _ HB3.out).mono ?_; rintro e w2 ⟨rfl, hb⟩; have HB4 := Lib.hid (thru HB3.out hb); have HD4 := Lib.hid (thru HD3.out hb); obtain ⟨⟨r1, r2, r3⟩, r4, r5, r6⟩ := HCell.out _ HD4.out; clear hb p1 p2 p3 p4 p5 p6)
      | (go_at_call 29; with_reducible refine (HC3.out _ HB4.out).mono ?_; rintro e w3 ⟨rfl, hb⟩; have HB5 := Lib.hid (thru HB4.out hb); have HD5 := Lib.hid (thru HD4.out hb); obtain ⟨⟨s1, s2, s3⟩, s4, s5, s6⟩ := HCell.out _ HD5.out; clear hb r1 r2 r3 r4 r5 r6)
      | (go_at_call 31; with_reducible refine (HC4.out _ HB5.out).mono ?_; rintro e w4 ⟨rfl, hb⟩; have HB6 := Lib.hid (thru HB5.out hb); clear hb))
    go_ret
    first
      | exact ⟨rfl, HB6.out⟩
      | exact ⟨rfl, HB5.out⟩
      | exact ⟨rfl, HB4.out⟩
      | exact ⟨rfl, HB3.out⟩
end
end Go.Proofs.YteaongdlbleehaaGreatDoor
