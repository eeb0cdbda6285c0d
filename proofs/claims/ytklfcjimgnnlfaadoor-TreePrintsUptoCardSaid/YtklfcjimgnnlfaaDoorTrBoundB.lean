/- The tree layer: what is written of a row of statements is not long; what is the same is written alike. -/
import Derived.Test.YtklfcjimgnnlfaaDoorTrBound
import Derived.Test.YtklfcjimgnnlfaaDoorTrStmtW
namespace Go.Proofs.YtklfcjimgnnlfaaDoor
open Go.RowKit
theorem szB_cost : (∀ x, szS x ≤ costS x) ∧ ∀ l, szB l ≤ costB l := by
  have key : ∀ n, (∀ x, costS x ≤ n → szS x ≤ costS x) ∧ ∀ l, costB l ≤ n → szB l ≤ costB l := by
    intro n
    induction n with
    | zero =>
      refine ⟨fun x h => absurd (costS_one x) (by omega), fun l h => ?_⟩
      cases l with
      | nil => exact Nat.zero_le _
      | cons x l => have := costS_one x; simp only [costB] at h; omega
    | succ n ih =>
      have hx : ∀ x, costS x ≤ n + 1 → szS x ≤ costS x := fun x h => by
        cases x with
        | mk o nm e A B a =>
          simp only [costS, szS] at h ⊢
          have := ih.2 A (by omega)
          have := ih.2 B (by omega)
          have := szL_cost.2 e
          omega
      refine ⟨hx, fun l => ?_⟩
      induction l with
      | nil => intro _; exact Nat.zero_le _
      | cons x l ihl =>
        intro h
        simp only [costB, szB] at h ⊢
        have := hx x (by omega)
        have := ihl (by omega)
        omega
  exact ⟨fun x => (key _).1 x (Nat.le_refl _), fun l => (key _).2 l (Nat.le_refl _)⟩
theorem depB_cost : (∀ x, depS x ≤ costS x) ∧ ∀ l, depB l ≤ costB l := by
  have key : ∀ n, (∀ x, costS x ≤ n → depS x ≤ costS x) ∧ ∀ l, costB l ≤ n → depB l ≤ costB l := by
    intro n
    induction n with
    | zero =>
      refine ⟨fun x h => absurd (costS_one x) (by omega), fun l h => ?_⟩
      cases l with
      | nil => exact Nat.zero_le _
      | cons x l => have := costS_one x; simp only [costB] at h; omega
    | succ n ih =>
      have hx : ∀ x, costS x ≤ n + 1 → depS x ≤ costS x := fun x h => by
        cases x with
        | mk o nm e A B a =>
          simp only [costS, depS] at h ⊢
          have := ih.2 A (by omega)
          have := ih.2 B (by omega)
          omega
      refine ⟨hx, fun l => ?_⟩
      induction l with
      | nil => intro _; exact Nat.zero_le _
      | cons x l ihl =>
        intro h
        simp only [costB, depB] at h ⊢
        have := hx x (by omega)
        have := ihl (by omega)
        omega
  exact ⟨fun x => (key _).1 x (Nat.le_refl _), fun l => (key _).2 l (Nat.le_refl _)⟩
theorem ind_len (d : Nat) : (ind d).length = 2 * d := by
  induction d with
  | zero => rfl
  | succ d ih => simp only [ind, List.length_append, List.length_cons, List.length_nil, ih]; omega
theorem block_len (d : Nat) (r : Bs) : (blockF d r).length = 4 + r.length + 2 * d := by
  unfold blockF
  simp only [List.length_append, List.length_cons, List.length_nil, ind_len]; omega
theorem ends_len (ts : List (Bs × Bool)) : (endsF ts).length ≤ 4 + allT ts := by
  have := part_len ts
  unfold endsF
  split
  · simp
  · simp only [List.length_append, List.length_cons, List.length_nil]; omega
theorem simple_len (o nm : ByteArray) (ts : List (Bs × Bool)) : (simpleF o nm ts).length ≤ 13 + nm.size + o.size + allT ts := by
  have h2 := part_len ts
  have h3 := ends_len ts
  have h4 : nm.data.toList.length = nm.size := rfl
  have h5 : o.data.toList.length = o.size := rfl
  unfold simpleF placeF
  repeat' split
  all_goals try simp only [List.length_append, List.length_cons, List.length_nil]
  all_goals omega
theorem stmt_len (o nm : ByteArray) (ts : List (Bs × Bool)) (ra rb : Bs) (nb d : Nat) : (stmtF o nm ts ra rb nb d).length ≤ 15 + nm.size + o.size + allT ts + ra.length + rb.length + 4 * d := by
  have h2 := part_len ts
  have h3 := simple_len o nm ts
  have h5 : o.data.toList.length = o.size := rfl
  unfold stmtF
  repeat' split
  all_goals try simp only [List.length_append, List.length_cons, List.length_nil, block_len]
  all_goals omega
theorem costS_X (x : St) : costS x = x.op.size + x.nm.size + 7 + costL x.e + costB x.A + costB x.B := by cases x; rfl
theorem depS_X (x : St) : depS x = 1 + max (depB x.A) (depB x.B) := by cases x; rfl
theorem textS_X (x : St) (d : Nat) : textS Lib.itoa x d = stmtF x.op x.nm (tL x.e) (textB Lib.itoa x.A (d + 1)) (textB Lib.itoa x.B (d + 1)) x.B.length d := by cases x; rfl
theorem mul_far {a b K : Nat} (h : b ≤ K) : a * b ≤ a * K := Nat.mul_le_mul_left a h
theorem rows_len {d D : Nat} {l : List St} (h : ∀ x ∈ l, (ind d).length + (textS Lib.itoa x d).length + 1 ≤ costS x * (D + 9)) : (textB Lib.itoa l d).length ≤ costB l * (D + 9) := by
  induction l with
  | nil => exact Nat.zero_le _
  | cons x l ih =>
    have h1 := h x (List.mem_cons_self ..)
    have h2 := ih (fun y hy => h y (List.mem_cons_of_mem _ hy))
    simp only [textB, costB, List.length_append, List.length_cons, List.length_nil, Nat.add_mul] at h1 h2 ⊢
    omega
theorem depB_in {l : List St} {x : St} (h : x ∈ l) : depS x ≤ depB l := by
  induction l with
  | nil => cases h
  | cons y l ih =>
    simp only [depB]
    cases List.mem_cons.1 h with
    | inl e => subst e; omega
    | inr e => have := ih e; omega
theorem textB_len (n : Nat) : ∀ (P : Nat → Prop) (w : World) (l : List St) (v : Value) (d D : Nat), StR P n w l v → d + depB l ≤ D → (textB Lib.itoa l d).length ≤ costB l * (D + 9) := by
  induction n with
  | zero => intro P w l v d D h; exact h.elim
  | succ n ih =>
    intro P w l v d D h hd
    obtain ⟨A, cap, -, -, -, h4⟩ := h
    refine rows_len fun x hx => ?_
    obtain ⟨i, hi⟩ := List.getElem?_of_mem hx
    obtain ⟨b, off, LE, LA, LB, -, -, -, -, e5, e6, e7⟩ := h4 i x hi
    have h0 := depB_in hx
    rw [depS_X] at h0
    have h1 := ih P w x.A LA (d + 1) D e6 (by omega)
    have h2 := ih P w x.B LB (d + 1) D e7 (by omega)
    have h3 := texts_len n P w x.e LE e5
    have h5 := stmt_len x.op x.nm (tL x.e) (textB Lib.itoa x.A (d + 1)) (textB Lib.itoa x.B (d + 1)) x.B.length d
    rw [textS_X, ind_len, costS_X]
    obtain ⟨K, hK⟩ : ∃ K, K = D + 9 := ⟨_, rfl⟩
    rw [← hK] at h1 h2 ⊢
    simp only [Nat.add_mul]
    have k1 : x.op.size * 9 ≤ x.op.size * K := mul_far (by omega)
    have k2 : x.nm.size * 9 ≤ x.nm.size * K := mul_far (by omega)
    have k3 : costL x.e * 9 ≤ costL x.e * K := mul_far (by omega)
    omega
/-- A row of statements that is not heavy: its text is not long. -/
theorem rows_ok {n : Nat} {P : Nat → Prop} {w : World} {l : List St} {v : Value} (h : StR P n w l v) (hc : costB l ≤ 1048576) : (textB Lib.itoa l 1).length ≤ 1125899906842624 / 256 := by
  have h1 := depB_cost.2 l
  have h2 := textB_len n P w l v 1 1048577 h (by omega)
  have h3 : costB l * (1048577 + 9) ≤ 1048576 * (1048577 + 9) := Nat.mul_le_mul_right _ hc
  omega
/-! ### The same is written alike -/
theorem bytes_same {a b : ByteArray} (h : (a.toList == b.toList) = true) : a = b := by
  have e : a.toList = b.toList := eq_of_beq h
  rw [ByteArray.toList_eq, ByteArray.toList_eq] at e
  exact WideShapes.bytes_inj e
theorem same_text : (∀ x y : Ex, sameE x y = true → tE x = tE y ∧ x.op = y.op) ∧ ∀ l r : List Ex, sameL l r = true → tL l = tL r := by
  have key : ∀ n, (∀ x y : Ex, szE x ≤ n → sameE x y = true → tE x = tE y ∧ x.op = y.op) ∧ ∀ l r : List Ex, szL l ≤ n → sameL l r = true → tL l = tL r := by
    intro n
    induction n with
    | zero =>
      have hx : ∀ x : Ex, ¬ szE x ≤ 0 := fun x => by cases x; simp only [szE]; omega
      refine ⟨fun x y h => absurd h (hx x), fun l r h hs => ?_⟩
      cases l with
      | nil => cases r with
        | nil => rfl
        | cons y r => cases hs
      | cons x l => exact absurd (show szE x ≤ 0 by simp only [szL] at h; omega) (hx x)
    | succ n ih =>
      have hx : ∀ x y : Ex, szE x ≤ n + 1 → sameE x y = true → tE x = tE y ∧ x.op = y.op := fun x y h hs => by
        cases x with
        | mk o nm k l a => cases y with
          | mk o' nm' k' l' a' =>
            simp only [szE] at h
            simp only [sameE, Bool.and_eq_true] at hs
            obtain ⟨h1, h2, h3, h4⟩ := hs
            have := ih.2 l l' (by omega) h4
            have e1 := bytes_same h1
            have e2 := bytes_same h2
            have e3 : k = k' := eq_of_beq h3
            subst e1 e2 e3
            refine ⟨?_, rfl⟩
            unfold tE tL at *
            simp only [textE, this]
      refine ⟨hx, fun l => ?_⟩
      induction l with
      | nil => intro r _ hs; cases r with
        | nil => rfl
        | cons y r => cases hs
      | cons x l ihl =>
        intro r h hs
        cases r with
        | nil => cases hs
        | cons y r =>
          simp only [szL] at h
          simp only [sameL, Bool.and_eq_true] at hs
          have a1 := hx x y (by omega) hs.1
          have a2 := ihl r (by omega) hs.2
          unfold tL tE at *
          simp only [textL, a1.1, a1.2, a2]
  exact ⟨fun x y => (key _).1 x y (Nat.le_refl _), fun l r => (key _).2 l r (Nat.le_refl _)⟩
theorem sameB_len {l r : List St} (h : sameB l r = true) : l.length = r.length := by
  induction l generalizing r with
  | nil => cases r with
    | nil => rfl
    | cons y r => cases h
  | cons x l ih => cases r with
    | nil => cases h
    | cons y r => simp only [sameB, Bool.and_eq_true] at h; simp [ih h.2]
theorem same_rows : (∀ x y : St, sameS x y = true → ∀ d, textS Lib.itoa x d = textS Lib.itoa y d) ∧ ∀ l r : List St, sameB l r = true → ∀ d, textB Lib.itoa l d = textB Lib.itoa r d := by
  have key : ∀ n, (∀ x y : St, szS x ≤ n → sameS x y = true → ∀ d, textS Lib.itoa x d = textS Lib.itoa y d) ∧ ∀ l r : List St, szB l ≤ n → sameB l r = true → ∀ d, textB Lib.itoa l d = textB Lib.itoa r d := by
    intro n
    induction n with
    | zero =>
      have hx : ∀ x : St, ¬ szS x ≤ 0 := fun x => by cases x; simp only [szS]; omega
      refine ⟨fun x y h => absurd h (hx x), fun l r h hs => ?_⟩
      cases l with
      | nil => cases r with
        | nil => intro d; rfl
        | cons y r => cases hs
      | cons x l => exact absurd (show szS x ≤ 0 by simp only [szB] at h; omega) (hx x)
    | succ n ih =>
      have hx : ∀ x y : St, szS x ≤ n + 1 → sameS x y = true → ∀ d, textS Lib.itoa x d = textS Lib.itoa y d := fun x y h hs d => by
        cases x with
        | mk o nm e A B a => cases y with
          | mk o' nm' e' A' B' a' =>
            simp only [szS] at h
            simp only [sameS, Bool.and_eq_true] at hs
            obtain ⟨h1, h2, h3, h4, h5⟩ := hs
            have q1 := ih.2 A A' (by omega) h4 (d + 1)
            have q2 := ih.2 B B' (by omega) h5 (d + 1)
            have q3 := same_text.2 e e' h3
            have q4 := sameB_len h5
            have e1 := bytes_same h1
            have e2 := bytes_same h2
            subst e1 e2
            unfold tL at q3
            simp only [textS, q1, q2, q3, q4]
      refine ⟨hx, fun l => ?_⟩
      induction l with
      | nil => intro r _ hs; cases r with
        | nil => intro d; rfl
        | cons y r => cases hs
      | cons x l ihl =>
        intro r h hs d
        cases r with
        | nil => cases hs
        | cons y r =>
          simp only [szB] at h
          simp only [sameB, Bool.and_eq_true] at hs
          have a1 := hx x y (by omega) hs.1 d
          have a2 := ihl r (by omega) hs.2 d
          simp only [textB, a1, a2]
  exact ⟨fun x y => (key _).1 x y (Nat.le_refl _), fun l r => (key _).2 l r (Nat.le_refl _)⟩
end Go.Proofs.YtklfcjimgnnlfaaDoor
