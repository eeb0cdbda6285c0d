/- The tree layer: what is the same: expressions, statements. -/
import Derived.Test.YtklfcjimgnnlfaaDoorTrOwn
import Derived.Deep.DeepCutAuto
namespace Go.Proofs.YtklfcjimgnnlfaaDoor
open Go.RowKit
theorem ret_bool {a b : Bool} (h : a = b) : Ending.returned (.bool a) = .returned (.bool b) := by rw [h]
/-- A fold over two rows side by side. -/
def sameF {α β : Type} (f : α → β → Bool) : List α → List β → Bool
  | [], [] => true
  | x :: r, y :: s => f x y && sameF f r s
  | _, _ => false
theorem sameF_len {α β : Type} (f : α → β → Bool) {l : List α} {r : List β} (h : l.length ≠ r.length) : sameF f l r = false := by
  induction l generalizing r with
  | nil => cases r with
    | nil => exact absurd rfl h
    | cons y r => rfl
  | cons x l ih => cases r with
    | nil => rfl
    | cons y r => simp only [sameF, ih (r := r) (fun e => h (by simp [e])), Bool.and_false]
theorem sameF_at {α β : Type} (f : α → β → Bool) {l : List α} {r : List β} {k : Nat} {x : α} {y : β} (hx : l[k]? = some x) (hy : r[k]? = some y) : sameF f (l.drop k) (r.drop k) = (f x y && sameF f (l.drop (k + 1)) (r.drop (k + 1))) := by
  obtain ⟨h1, e1⟩ := List.getElem?_eq_some_iff.1 hx
  obtain ⟨h2, e2⟩ := List.getElem?_eq_some_iff.1 hy
  rw [List.drop_eq_getElem_cons h1, List.drop_eq_getElem_cons h2, e1, e2]
  rfl
theorem sameL_F (l r : List Ex) : sameL l r = sameF sameE l r := by
  induction l generalizing r with
  | nil => cases r <;> rfl
  | cons x l ih => cases r with
    | nil => rfl
    | cons y r => simp only [sameL, sameF, ih]
theorem sameB_F (l r : List St) : sameB l r = sameF sameS l r := by
  induction l generalizing r with
  | nil => cases r <;> rfl
  | cons x l ih => cases r with
    | nil => rfl
    | cons y r => simp only [sameB, sameF, ih]
/-- Two expressions, by their parts. -/
def sameX (o nm : ByteArray) (k : Int) (l : List Ex) (o' nm' : ByteArray) (k' : Int) (l' : List Ex) : Bool := (o.toList == o'.toList) && ((nm.toList == nm'.toList) && ((k == k') && sameL l l'))
theorem sameE_X (x y : Ex) : sameE x y = sameX x.op x.nm x.n x.l y.op y.nm y.n y.l := by cases x; cases y; rfl
def sameSX (o nm : ByteArray) (e : List Ex) (A B : List St) (o' nm' : ByteArray) (e' : List Ex) (A' B' : List St) : Bool := (o.toList == o'.toList) && ((nm.toList == nm'.toList) && (sameL e e' && (sameB A A' && sameB B B')))
theorem sameS_X (x y : St) : sameS x y = sameSX x.op x.nm x.e x.A x.B y.op y.nm y.e y.A y.B := by cases x; cases y; rfl
section
variable {W : World}
set_option maxRecDepth 100000 in
set_option maxHeartbeats 6400000 in
theorem rowEq_step {n : Nat} (ih : ∀ (l r : List Ex) (o nm : ByteArray) (k a : Int) (o' nm' : ByteArray) (k' a' : Int) (v u : Value) (P : Nat → Prop) (W : World), ExR P n W l v → ExR P n W r u → (∀ b, P b → b < W.heap.size) → Calls Tryd.prog 24 #[exV o nm k v a, exV o' nm' k' u a'] W (fun e w' => e = .returned (.bool (sameX o nm k l o' nm' k' r)) ∧ Below W.heap.size W w')) : ∀ (l r : List Ex) (v u : Value) (P : Nat → Prop) (W : World), ExR P (n + 1) W l v → ExR P (n + 1) W r u → (∀ b, P b → b < W.heap.size) → Calls Tryd.prog 47 #[v, u, .func (.func 24) #[] #[]] W (fun e w' => e = .returned (.bool (sameL l r)) ∧ Below W.heap.size W w') := by
  intro l r v u P W hv hu hP
  obtain ⟨A1, cap1, rfl, hc1, hl1, hat1⟩ := hv
  obtain ⟨A2, cap2, rfl, hc2, hl2, hat2⟩ := hu
  have HA1 := Lib.hid hat1
  have HA2 := Lib.hid hat2
  have hl3 : l.length ≤ 140737488355328 := by omega
  have hl4 : r.length ≤ 140737488355328 := by omega
  clear hat1 hat2 hl1 hl2
  by_cases hlen : l.length = r.length
  · have hneq : ((l.length : Int) != (r.length : Int)) = false := by rw [hlen]; simp
    obtain ⟨m, hm⟩ : ∃ m, r.length = m := ⟨_, rfl⟩
    rw [hm] at hlen hneq hl4 hc2 ⊢
    have HM1 := Lib.hid hlen
    have HM2 := Lib.hid hm
    rw [hlen] at hl3 hc1 hneq ⊢
    clear hm hlen
    go_enter Tryd.func47, Tryd.ntmps47
    go_wp2
    go_loopw [17] (fun i wr => ∃ k : Nat, i = .int .i64 (k : Int) ∧ k ≤ m ∧ Hid (sameL (l.drop k) (r.drop k) = sameL l r) ∧ Below W.heap.size W wr) (fun i _ => m - (RowKit.intOf i).toNat)
    case atStart => exact ⟨0, rfl, Nat.zero_le _, Lib.hid rfl, Below.refl _ _⟩
    case round =>
      obtain ⟨k, rfl, hk, HEq, hbw⟩ := hrel
      by_cases hlt : k < m
      · obtain ⟨x, hx⟩ : ∃ x, l[k]? = some x := ⟨l[k]'(by rw [HM1.out]; exact hlt), List.getElem?_eq_getElem _⟩
        obtain ⟨y, hy⟩ : ∃ y, r[k]? = some y := ⟨r[k]'(by rw [HM2.out]; exact hlt), List.getElem?_eq_getElem _⟩
        obtain ⟨b1, off1, L1, rfl, hbB1, ha1, -, -, hr1⟩ := HA1.out k x hx
        obtain ⟨b2, off2, L2, rfl, hbB2, ha2, -, -, hr2⟩ := HA2.out k y hy
        obtain ⟨x0, x1, x2, x3, x4⟩ := ha1.below hbw (hP b1 hbB1)
        obtain ⟨y0, y1, y2, y3, y4⟩ := ha2.below hbw (hP b2 hbB2)
        obtain ⟨B1, c1, rfl, -, -⟩ := hr1.slice
        obtain ⟨B2, c2, rfl, -, -⟩ := hr2.slice
        obtain ⟨q, hq⟩ : ∃ q, q = sameE x y := ⟨_, rfl⟩
        have HC : Hid (∀ w2, Below W.heap.size W w2 → Calls Tryd.prog 24 #[exV x.op x.nm x.n (.slice B1 x.l.length c1) x.a, exV y.op y.nm y.n (.slice B2 y.l.length c2) y.a] w2 (fun e w' => e = .returned (.bool q) ∧ Below w2.heap.size w2 w')) := Lib.hid fun w2 hb2 => by
          rw [hq, sameE_X]
          exact ih _ _ _ _ _ _ _ _ _ _ _ _ P w2 (hr1.below hb2 hP) (hr2.below hb2 hP) (lo_up hP hb2.size)
        clear ha1 ha2 hr1 hr2
        have hbw2 : b2 < wr.heap.size := lo_up hP hbw.size b2 hbB2
        have HBw := Lib.hid hbw
        have HB1 := Lib.hid ((Below.refl wr.heap.size wr).alloc (Nat.le_refl _) (.cells #[.string x.op, .string x.nm, .int .i64 x.n, .slice B1 x.l.length c1, .int .i64 x.a] 52))
        have HB2 := Lib.hid (thru HB1.out ((Below.refl _ _).alloc (Nat.le_refl _) (.cells #[.string y.op, .string y.nm, .int .i64 y.n, .slice B2 y.l.length c2, .int .i64 y.a] 52)))
        have HSt : Hid (sameL (l.drop k) (r.drop k) = (q && sameL (l.drop (k + 1)) (r.drop (k + 1)))) := Lib.hid (by
          rw [sameL_F, sameL_F]
          exact (sameF_at _ hx hy).trans (by rw [hq]))
        clear hbw hx hy hq
        cases q
        · go_wp2_with (go_at_call 24; with_reducible refine (HC.out _ (thru HBw.out HB2.out)).mono ?_; rintro e w1 ⟨rfl, hb⟩; have HB3 := Lib.hid (thru HBw.out (thru HB2.out hb)); clear hb)
          go_ret
          exact ⟨ret_bool (by rw [← HEq.out, HSt.out, Bool.false_and]), HB3.out⟩
        · go_wp2_with (go_at_call 24; with_reducible refine (HC.out _ (thru HBw.out HB2.out)).mono ?_; rintro e w1 ⟨rfl, hb⟩; have HB3 := Lib.hid (thru HBw.out (thru HB2.out hb)); clear hb)
          go_roundw
          case rel => exact ⟨k + 1, by go_num, hlt, Lib.hid (by rw [← HEq.out, HSt.out, Bool.true_and]), HB3.out⟩
          case measure => simp [RowKit.intOf]; omega
      · have he : k = m := by omega
        subst he
        have HT : Hid (sameL l r = true) := Lib.hid (by rw [← HEq.out, List.drop_eq_nil_of_le (by rw [HM1.out]; exact Nat.le_refl _), List.drop_eq_nil_of_le (by rw [HM2.out]; exact Nat.le_refl _)]; rfl)
        go_wp2_with fail
        go_ret
        exact ⟨ret_bool HT.out.symm, hbw⟩
  · have hneq : ((l.length : Int) != (r.length : Int)) = true := by simp; omega
    have HF : Hid (sameL l r = false) := Lib.hid (by rw [sameL_F]; exact sameF_len _ hlen)
    clear hlen
    go_enter Tryd.func47, Tryd.ntmps47
    go_wp2
    go_ret
    exact ⟨ret_bool HF.out.symm, Below.refl _ _⟩
set_option maxRecDepth 100000 in
set_option maxHeartbeats 6400000 in
theorem exEq_step {n : Nat} (hrow : ∀ (l r : List Ex) (v u : Value) (P : Nat → Prop) (W : World), ExR P n W l v → ExR P n W r u → (∀ b, P b → b < W.heap.size) → Calls Tryd.prog 47 #[v, u, .func (.func 24) #[] #[]] W (fun e w' => e = .returned (.bool (sameL l r)) ∧ Below W.heap.size W w')) :
    ∀ (l r : List Ex) (o nm : ByteArray) (k a : Int) (o' nm' : ByteArray) (k' a' : Int) (v u : Value) (P : Nat → Prop) (W : World), ExR P n W l v → ExR P n W r u → (∀ b, P b → b < W.heap.size) → Calls Tryd.prog 24 #[exV o nm k v a, exV o' nm' k' u a'] W (fun e w' => e = .returned (.bool (sameX o nm k l o' nm' k' r)) ∧ Below W.heap.size W w') := by
  intro l r o nm k a o' nm' k' a' v u P W hv hu hP
  obtain ⟨q, hq⟩ : ∃ q, q = sameL l r := ⟨_, rfl⟩
  have HX : Hid (sameX o nm k l o' nm' k' r = ((o.toList == o'.toList) && ((nm.toList == nm'.toList) && ((k == k') && q)))) := Lib.hid (by rw [hq]; rfl)
  have HC : Hid (∀ w2, Below W.heap.size W w2 → Calls Tryd.prog 47 #[v, u, .func (.func 24) #[] #[]] w2 (fun e w' => e = .returned (.bool q) ∧ Below w2.heap.size w2 w')) := Lib.hid fun w2 hb2 => by
    rw [hq]
    exact hrow l r v u P w2 (hv.below hb2 hP) (hu.below hb2 hP) (lo_up hP hb2.size)
  obtain ⟨A1, c1, rfl, -, -⟩ := hv.slice
  obtain ⟨A2, c2, rfl, -, -⟩ := hu.slice
  have HB : Hid (Below W.heap.size W ((W.alloc (.cells #[.string o, .string nm, .int .i64 k, .slice A1 l.length c1, .int .i64 a] 52)).alloc (.cells #[.string o', .string nm', .int .i64 k', .slice A2 r.length c2, .int .i64 a'] 52))) := Lib.hid (thru ((Below.refl _ _).alloc (Nat.le_refl _) _) ((Below.refl _ _).alloc (Nat.le_refl _) _))
  rw [HX.out]
  clear hv hu hq
  cases b1 : (o.toList == o'.toList)
  · go_enter Tryd.func24, Tryd.ntmps24
    go_wp2
    go_ret
    exact ⟨rfl, HB.out⟩
  · cases b2 : (nm.toList == nm'.toList)
    · go_enter Tryd.func24, Tryd.ntmps24
      go_wp2
      go_ret
      exact ⟨rfl, HB.out⟩
    · cases b3 : (k == k')
      · go_enter Tryd.func24, Tryd.ntmps24
        go_wp2
        go_ret
        exact ⟨rfl, HB.out⟩
      · go_enter Tryd.func24, Tryd.ntmps24
        go_wp2_with (go_at_call 47; with_reducible refine (HC.out _ HB.out).mono ?_; rintro e w1 ⟨rfl, hb⟩; have HB3 := Lib.hid (thru HB.out hb); clear hb)
        go_ret
        exact ⟨rfl, HB3.out⟩
/-- Rows of expressions, side by side. -/
theorem rowEq_any (n : Nat) : ∀ (l r : List Ex) (v u : Value) (P : Nat → Prop) (W : World), ExR P n W l v → ExR P n W r u → (∀ b, P b → b < W.heap.size) → Calls Tryd.prog 47 #[v, u, .func (.func 24) #[] #[]] W (fun e w' => e = .returned (.bool (sameL l r)) ∧ Below W.heap.size W w') := by
  induction n with
  | zero => intro l r v u P W h; exact h.elim
  | succ n ih => exact rowEq_step (exEq_step ih)
theorem exEq_any (n : Nat) : ∀ (l r : List Ex) (o nm : ByteArray) (k a : Int) (o' nm' : ByteArray) (k' a' : Int) (v u : Value) (P : Nat → Prop) (W : World), ExR P n W l v → ExR P n W r u → (∀ b, P b → b < W.heap.size) → Calls Tryd.prog 24 #[exV o nm k v a, exV o' nm' k' u a'] W (fun e w' => e = .returned (.bool (sameX o nm k l o' nm' k' r)) ∧ Below W.heap.size W w') := exEq_step (rowEq_any n)
set_option maxRecDepth 100000 in
set_option maxHeartbeats 6400000 in
theorem blkEq_step {n : Nat} (ih : ∀ (e : List Ex) (A B : List St) (e' : List Ex) (A' B' : List St) (o nm : ByteArray) (a : Int) (o' nm' : ByteArray) (a' : Int) (ve vA vB ue uA uB : Value) (P : Nat → Prop) (W : World), ExR P n W e ve → StR P n W A vA → StR P n W B vB → ExR P n W e' ue → StR P n W A' uA → StR P n W B' uB → (∀ b, P b → b < W.heap.size) → Calls Tryd.prog 60 #[stV o nm ve vA vB a, stV o' nm' ue uA uB a'] W (fun r w' => r = .returned (.bool (sameSX o nm e A B o' nm' e' A' B')) ∧ Below W.heap.size W w')) : ∀ (l r : List St) (v u : Value) (P : Nat → Prop) (W : World), StR P (n + 1) W l v → StR P (n + 1) W r u → (∀ b, P b → b < W.heap.size) → Calls Tryd.prog 59 #[v, u, .func (.func 60) #[] #[]] W (fun e w' => e = .returned (.bool (sameB l r)) ∧ Below W.heap.size W w') := by
  intro l r v u P W hv hu hP
  obtain ⟨A1, cap1, rfl, hc1, hl1, hat1⟩ := hv
  obtain ⟨A2, cap2, rfl, hc2, hl2, hat2⟩ := hu
  have HA1 := Lib.hid hat1
  have HA2 := Lib.hid hat2
  have hl3 : l.length ≤ 140737488355328 := by omega
  have hl4 : r.length ≤ 140737488355328 := by omega
  clear hat1 hat2 hl1 hl2
  by_cases hlen : l.length = r.length
  · have hneq : ((l.length : Int) != (r.length : Int)) = false := by rw [hlen]; simp
    obtain ⟨m, hm⟩ : ∃ m, r.length = m := ⟨_, rfl⟩
    rw [hm] at hlen hneq hl4 hc2 ⊢
    have HM1 := Lib.hid hlen
    have HM2 := Lib.hid hm
    rw [hlen] at hl3 hc1 hneq ⊢
    clear hm hlen
    go_enter Tryd.func59, Tryd.ntmps59
    go_wp2
    go_loopw [17] (fun i wr => ∃ k : Nat, i = .int .i64 (k : Int) ∧ k ≤ m ∧ Hid (sameB (l.drop k) (r.drop k) = sameB l r) ∧ Below W.heap.size W wr) (fun i _ => m - (RowKit.intOf i).toNat)
    case atStart => exact ⟨0, rfl, Nat.zero_le _, Lib.hid rfl, Below.refl _ _⟩
    case round =>
      obtain ⟨k, rfl, hk, HEq, hbw⟩ := hrel
      by_cases hlt : k < m
      · obtain ⟨x, hx⟩ : ∃ x, l[k]? = some x := ⟨l[k]'(by rw [HM1.out]; exact hlt), List.getElem?_eq_getElem _⟩
        obtain ⟨y, hy⟩ : ∃ y, r[k]? = some y := ⟨r[k]'(by rw [HM2.out]; exact hlt), List.getElem?_eq_getElem _⟩
        obtain ⟨b1, off1, LE1, LA1, LB1, rfl, hbB1, ha1, -, he1, hra1, hrb1⟩ := HA1.out k x hx
        obtain ⟨b2, off2, LE2, LA2, LB2, rfl, hbB2, ha2, -, he2, hra2, hrb2⟩ := HA2.out k y hy
        obtain ⟨x0, x1, x2, x3, x4, x5⟩ := ha1.below hbw (hP b1 hbB1)
        obtain ⟨y0, y1, y2, y3, y4, y5⟩ := ha2.below hbw (hP b2 hbB2)
        obtain ⟨E1, e1, rfl, -, -⟩ := he1.slice
        obtain ⟨E2, e2, rfl, -, -⟩ := he2.slice
        obtain ⟨B1, c1, rfl, -, -⟩ := hra1.slice
        obtain ⟨B2, c2, rfl, -, -⟩ := hra2.slice
        obtain ⟨D1, d1, rfl, -, -⟩ := hrb1.slice
        obtain ⟨D2, d2, rfl, -, -⟩ := hrb2.slice
        obtain ⟨q, hq⟩ : ∃ q, q = sameS x y := ⟨_, rfl⟩
        have HC : Hid (∀ w2, Below W.heap.size W w2 → Calls Tryd.prog 60 #[stV x.op x.nm (.slice E1 x.e.length e1) (.slice B1 x.A.length c1) (.slice D1 x.B.length d1) x.a, stV y.op y.nm (.slice E2 y.e.length e2) (.slice B2 y.A.length c2) (.slice D2 y.B.length d2) y.a] w2 (fun e w' => e = .returned (.bool q) ∧ Below w2.heap.size w2 w')) := Lib.hid fun w2 hb2 => by
          rw [hq, sameS_X]
          exact ih _ _ _ _ _ _ _ _ _ _ _ _ _ _ _ _ _ _ P w2 (he1.below hb2 hP) (hra1.below hb2 hP) (hrb1.below hb2 hP) (he2.below hb2 hP) (hra2.below hb2 hP) (hrb2.below hb2 hP) (lo_up hP hb2.size)
        clear ha1 ha2 he1 he2 hra1 hra2 hrb1 hrb2
        have hbw2 : b2 < wr.heap.size := lo_up hP hbw.size b2 hbB2
        have HBw := Lib.hid hbw
        have HB1 := Lib.hid ((Below.refl wr.heap.size wr).alloc (Nat.le_refl _) (.cells #[.string x.op, .string x.nm, .slice E1 x.e.length e1, .slice B1 x.A.length c1, .slice D1 x.B.length d1, .int .i64 x.a] 60))
        have HB2 := Lib.hid (thru HB1.out ((Below.refl _ _).alloc (Nat.le_refl _) (.cells #[.string y.op, .string y.nm, .slice E2 y.e.length e2, .slice B2 y.A.length c2, .slice D2 y.B.length d2, .int .i64 y.a] 60)))
        have HSt : Hid (sameB (l.drop k) (r.drop k) = (q && sameB (l.drop (k + 1)) (r.drop (k + 1)))) := Lib.hid (by
          rw [sameB_F, sameB_F]
          exact (sameF_at _ hx hy).trans (by rw [hq]))
        clear hbw hx hy hq
        cases q
        · go_wp2_with (go_at_call 60; with_reducible refine (HC.out _ (thru HBw.out HB2.out)).mono ?_; rintro e w1 ⟨rfl, hb⟩; have HB3 := Lib.hid (thru HBw.out (thru HB2.out hb)); clear hb)
          go_ret
          exact ⟨ret_bool (by rw [← HEq.out, HSt.out, Bool.false_and]), HB3.out⟩
        · go_wp2_with (go_at_call 60; with_reducible refine (HC.out _ (thru HBw.out HB2.out)).mono ?_; rintro e w1 ⟨rfl, hb⟩; have HB3 := Lib.hid (thru HBw.out (thru HB2.out hb)); clear hb)
          go_roundw
          case rel => exact ⟨k + 1, by go_num, hlt, Lib.hid (by rw [← HEq.out, HSt.out, Bool.true_and]), HB3.out⟩
          case measure => simp [RowKit.intOf]; omega
      · have he : k = m := by omega
        subst he
        have HT : Hid (sameB l r = true) := Lib.hid (by rw [← HEq.out, List.drop_eq_nil_of_le (by rw [HM1.out]; exact Nat.le_refl _), List.drop_eq_nil_of_le (by rw [HM2.out]; exact Nat.le_refl _)]; rfl)
        go_wp2_with fail
        go_ret
        exact ⟨ret_bool HT.out.symm, hbw⟩
  · have hneq : ((l.length : Int) != (r.length : Int)) = true := by simp; omega
    have HF : Hid (sameB l r = false) := Lib.hid (by rw [sameB_F]; exact sameF_len _ hlen)
    clear hlen
    go_enter Tryd.func59, Tryd.ntmps59
    go_wp2
    go_ret
    exact ⟨ret_bool HF.out.symm, Below.refl _ _⟩
set_option maxRecDepth 100000 in
set_option maxHeartbeats 3200000 in
theorem sameBlock_step {n : Nat} (hrow : ∀ (l r : List St) (v u : Value) (P : Nat → Prop) (W : World), StR P n W l v → StR P n W r u → (∀ b, P b → b < W.heap.size) → Calls Tryd.prog 59 #[v, u, .func (.func 60) #[] #[]] W (fun e w' => e = .returned (.bool (sameB l r)) ∧ Below W.heap.size W w')) :
    ∀ (l r : List St) (v u : Value) (P : Nat → Prop) (W : World), StR P n W l v → StR P n W r u → (∀ b, P b → b < W.heap.size) → Calls Tryd.prog 41 #[v, u] W (fun e w' => e = .returned (.bool (sameB l r)) ∧ Below W.heap.size W w') := by
  intro l r v u P W hv hu hP
  have HC := Lib.hid (hrow l r v u P W hv hu hP)
  clear hrow hv hu hP
  obtain ⟨q, hq⟩ : ∃ q, q = sameB l r := ⟨_, rfl⟩
  rw [← hq] at HC ⊢
  clear hq
  go_enter Tryd.func41, Tryd.ntmps41
  go_wp2_with (go_at_call 59; with_reducible refine (HC.out).mono ?_; rintro e w1 ⟨rfl, hb⟩; have HB3 := Lib.hid hb; clear hb)
  go_ret
  exact ⟨rfl, HB3.out⟩
set_option maxRecDepth 100000 in
set_option maxHeartbeats 6400000 in
theorem stEq_step {n : Nat} (hrow : ∀ (l r : List St) (v u : Value) (P : Nat → Prop) (W : World), StR P n W l v → StR P n W r u → (∀ b, P b → b < W.heap.size) → Calls Tryd.prog 59 #[v, u, .func (.func 60) #[] #[]] W (fun e w' => e = .returned (.bool (sameB l r)) ∧ Below W.heap.size W w')) :
    ∀ (e : List Ex) (A B : List St) (e' : List Ex) (A' B' : List St) (o nm : ByteArray) (a : Int) (o' nm' : ByteArray) (a' : Int) (ve vA vB ue uA uB : Value) (P : Nat → Prop) (W : World), ExR P n W e ve → StR P n W A vA → StR P n W B vB → ExR P n W e' ue → StR P n W A' uA → StR P n W B' uB → (∀ b, P b → b < W.heap.size) → Calls Tryd.prog 60 #[stV o nm ve vA vB a, stV o' nm' ue uA uB a'] W (fun r w' => r = .returned (.bool (sameSX o nm e A B o' nm' e' A' B')) ∧ Below W.heap.size W w') := by
  intro e A B e' A' B' o nm a o' nm' a' ve vA vB ue uA uB P W he hA hB he' hA' hB' hP
  obtain ⟨q, hq⟩ : ∃ q, q = sameL e e' := ⟨_, rfl⟩
  obtain ⟨q1, hq1⟩ : ∃ q, q = sameB A A' := ⟨_, rfl⟩
  obtain ⟨q2, hq2⟩ : ∃ q, q = sameB B B' := ⟨_, rfl⟩
  have HX : Hid (sameSX o nm e A B o' nm' e' A' B' = ((o.toList == o'.toList) && ((nm.toList == nm'.toList) && (q && (q1 && q2))))) := Lib.hid (by rw [hq, hq1, hq2]; rfl)
  have HC : Hid (∀ w2, Below W.heap.size W w2 → Calls Tryd.prog 47 #[ve, ue, .func (.func 24) #[] #[]] w2 (fun e w' => e = .returned (.bool q) ∧ Below w2.heap.size w2 w')) := Lib.hid fun w2 hb2 => by
    rw [hq]
    exact rowEq_any n _ _ _ _ P w2 (he.below hb2 hP) (he'.below hb2 hP) (lo_up hP hb2.size)
  have HC1 : Hid (∀ w2, Below W.heap.size W w2 → Calls Tryd.prog 41 #[vA, uA] w2 (fun e w' => e = .returned (.bool q1) ∧ Below w2.heap.size w2 w')) := Lib.hid fun w2 hb2 => by
    rw [hq1]
    exact sameBlock_step hrow _ _ _ _ P w2 (hA.below hb2 hP) (hA'.below hb2 hP) (lo_up hP hb2.size)
  have HC2 : Hid (∀ w2, Below W.heap.size W w2 → Calls Tryd.prog 41 #[vB, uB] w2 (fun e w' => e = .returned (.bool q2) ∧ Below w2.heap.size w2 w')) := Lib.hid fun w2 hb2 => by
    rw [hq2]
    exact sameBlock_step hrow _ _ _ _ P w2 (hB.below hb2 hP) (hB'.below hb2 hP) (lo_up hP hb2.size)
  obtain ⟨A1, c1, rfl, -, -⟩ := he.slice
  obtain ⟨A2, c2, rfl, -, -⟩ := hA.slice
  obtain ⟨A3, c3, rfl, -, -⟩ := hB.slice
  obtain ⟨A4, c4, rfl, -, -⟩ := he'.slice
  obtain ⟨A5, c5, rfl, -, -⟩ := hA'.slice
  obtain ⟨A6, c6, rfl, -, -⟩ := hB'.slice
  have HK1 : Hid (Blk ((W.alloc (.cells #[.string o, .string nm, .slice A1 e.length c1, .slice A2 A.length c2, .slice A3 B.length c3, .int .i64 a] 60)).alloc (.cells #[.string o', .string nm', .slice A4 e'.length c4, .slice A5 A'.length c5, .slice A6 B'.length c6, .int .i64 a'] 60)) W.heap.size 60 #[.string o, .string nm, .slice A1 e.length c1, .slice A2 A.length c2, .slice A3 B.length c3, .int .i64 a]) := Lib.hid ((Blk.new W _ _).below ((Below.refl _ _).alloc (Nat.le_refl _) _) (Blk.new W _ _).lt)
  have HK2 : Hid (Blk ((W.alloc (.cells #[.string o, .string nm, .slice A1 e.length c1, .slice A2 A.length c2, .slice A3 B.length c3, .int .i64 a] 60)).alloc (.cells #[.string o', .string nm', .slice A4 e'.length c4, .slice A5 A'.length c5, .slice A6 B'.length c6, .int .i64 a'] 60)) (W.heap.size + 1) 60 #[.string o', .string nm', .slice A4 e'.length c4, .slice A5 A'.length c5, .slice A6 B'.length c6, .int .i64 a']) := Lib.hid (by
    have := Blk.new (W.alloc (.cells #[.string o, .string nm, .slice A1 e.length c1, .slice A2 A.length c2, .slice A3 B.length c3, .int .i64 a] 60)) 60 #[.string o', .string nm', .slice A4 e'.length c4, .slice A5 A'.length c5, .slice A6 B'.length c6, .int .i64 a']
    rw [World.size_alloc] at this
    exact this)
  have HB : Hid (Below W.heap.size W ((W.alloc (.cells #[.string o, .string nm, .slice A1 e.length c1, .slice A2 A.length c2, .slice A3 B.length c3, .int .i64 a] 60)).alloc (.cells #[.string o', .string nm', .slice A4 e'.length c4, .slice A5 A'.length c5, .slice A6 B'.length c6, .int .i64 a'] 60))) := Lib.hid (thru ((Below.refl _ _).alloc (Nat.le_refl _) _) ((Below.refl _ _).alloc (Nat.le_refl _) _))
  rw [HX.out]
  clear he hA hB he' hA' hB' hq hq1 hq2 hrow hP
  obtain ⟨W0, hW0⟩ : ∃ W0, W0 = ((W.alloc (.cells #[.string o, .string nm, .slice A1 e.length c1, .slice A2 A.length c2, .slice A3 B.length c3, .int .i64 a] 60)).alloc (.cells #[.string o', .string nm', .slice A4 e'.length c4, .slice A5 A'.length c5, .slice A6 B'.length c6, .int .i64 a'] 60)) := ⟨_, rfl⟩
  rw [← hW0] at HK1 HK2 HB
  have HW0 := Lib.hid hW0
  clear hW0
  have x0 := HK1.out.cell 0
  have x1 := HK1.out.cell 1
  have x2 := HK1.out.cell 2
  have x3 := HK1.out.cell 3
  have x4 := HK1.out.cell 4
  have y0 := HK2.out.cell 0
  have y1 := HK2.out.cell 1
  have y2 := HK2.out.cell 2
  have y3 := HK2.out.cell 3
  have y4 := HK2.out.cell 4
  simp at x0 x1 x2 x3 x4 y0 y1 y2 y3 y4
  have HCell : Hid (∀ w', Below W0.heap.size W0 w' → (w'.cell? ⟨W.heap.size, 3, none⟩ = some (.slice A2 A.length c2) ∧ w'.cell? ⟨W.heap.size, 4, none⟩ = some (.slice A3 B.length c3)) ∧ w'.cell? ⟨W.heap.size + 1, 3, none⟩ = some (.slice A5 A'.length c5) ∧ w'.cell? ⟨W.heap.size + 1, 4, none⟩ = some (.slice A6 B'.length c6)) := Lib.hid fun w' hb => ⟨⟨(HK1.out.below hb HK1.out.lt).cell 3, (HK1.out.below hb HK1.out.lt).cell 4⟩, (HK2.out.below hb HK2.out.lt).cell 3, (HK2.out.below hb HK2.out.lt).cell 4⟩
  cases b1 : (o.toList == o'.toList)
  · go_enter Tryd.func60, Tryd.ntmps60
    go_upto_region 1 with fail
    rw [← HW0.out]
    go_wp2
    go_ret
    exact ⟨rfl, HB.out⟩
  · cases b2 : (nm.toList == nm'.toList)
    · go_enter Tryd.func60, Tryd.ntmps60
      go_upto_region 1 with fail
      rw [← HW0.out]
      go_wp2
      go_ret
      exact ⟨rfl, HB.out⟩
    · cases q <;> cases q1
      all_goals
        go_enter Tryd.func60, Tryd.ntmps60
        go_upto_region 1 with fail
        rw [← HW0.out]
        go_wp2_with (first
          | (go_at_call 47; with_reducible refine (HC.out _ HB.out).mono ?_; rintro e w1 ⟨rfl, hb⟩; have HB3 := Lib.hid (thru HB.out hb); have HD := Lib.hid hb; obtain ⟨⟨p3, p4⟩, p5, p6⟩ := HCell.out _ hb; clear hb x0 x1 x2 x3 x4 y0 y1 y2 y3 y4)
          | (go_at_call 41; with_reducible refine (HC1.out _ HB3.out).mono ?_; rintro e w2 ⟨rfl, hb⟩; have HB4 := Lib.hid (thru HB3.out hb); obtain ⟨⟨r3, r4⟩, r5, r6⟩ := HCell.out _ (thru HD.out hb); clear hb p3 p4 p5 p6)
          | (go_at_call 41; with_reducible refine (HC2.out _ HB4.out).mono ?_; rintro e w3 ⟨rfl, hb⟩; have HB5 := Lib.hid (thru HB4.out hb); clear hb))
        go_ret
        first
          | exact ⟨rfl, HB5.out⟩
          | exact ⟨rfl, HB4.out⟩
          | exact ⟨rfl, HB3.out⟩
/-- Rows of statements, side by side. -/
theorem blkEq_any (n : Nat) : ∀ (l r : List St) (v u : Value) (P : Nat → Prop) (W : World), StR P n W l v → StR P n W r u → (∀ b, P b → b < W.heap.size) → Calls Tryd.prog 59 #[v, u, .func (.func 60) #[] #[]] W (fun e w' => e = .returned (.bool (sameB l r)) ∧ Below W.heap.size W w') := by
  induction n with
  | zero => intro l r v u P W h; exact h.elim
  | succ n ih => exact blkEq_step (stEq_step ih)
theorem sameBlock_any (n : Nat) : ∀ (l r : List St) (v u : Value) (P : Nat → Prop) (W : World), StR P n W l v → StR P n W r u → (∀ b, P b → b < W.heap.size) → Calls Tryd.prog 41 #[v, u] W (fun e w' => e = .returned (.bool (sameB l r)) ∧ Below W.heap.size W w') := sameBlock_step (blkEq_any n)
end
end Go.Proofs.YtklfcjimgnnlfaaDoor
