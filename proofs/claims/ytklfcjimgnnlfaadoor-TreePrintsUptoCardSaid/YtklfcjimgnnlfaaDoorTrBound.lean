/- The tree layer: what is written of an argument is not long: bounds by what it weighs. -/
import Derived.Test.YtklfcjimgnnlfaaDoorTrArgs
import Derived.Test.YtklfcjimgnnlfaaDoorTrRefT
import Derived.Lib.ItoaLen
namespace Go.Proofs.YtklfcjimgnnlfaaDoor
open Go.RowKit
theorem szL_cost : (∀ x, szE x ≤ costE x) ∧ ∀ l, szL l ≤ costL l := by
  have key : ∀ n, (∀ x, costE x ≤ n → szE x ≤ costE x) ∧ ∀ l, costL l ≤ n → szL l ≤ costL l := by
    intro n
    induction n with
    | zero =>
      refine ⟨fun x h => absurd (costE_one x) (by omega), fun l h => ?_⟩
      cases l with
      | nil => exact Nat.zero_le _
      | cons x l => have := costE_one x; simp only [costL] at h; omega
    | succ n ih =>
      have hx : ∀ x, costE x ≤ n + 1 → szE x ≤ costE x := fun x h => by
        cases x with
        | mk o nm k l a =>
          simp only [costE, szE] at h ⊢
          have := ih.2 l (by omega)
          omega
      refine ⟨hx, fun l => ?_⟩
      induction l with
      | nil => intro _; exact Nat.zero_le _
      | cons x l ihl =>
        intro h
        simp only [costL, szL] at h ⊢
        have := hx x (by omega)
        have := ihl (by omega)
        omega
  exact ⟨fun x => (key _).1 x (Nat.le_refl _), fun l => (key _).2 l (Nat.le_refl _)⟩
theorem deepL_sz : (∀ x, deepE x ≤ szE x) ∧ ∀ l, deepL l ≤ szL l := by
  have key : ∀ n, (∀ x, szE x ≤ n → deepE x ≤ szE x) ∧ ∀ l, szL l ≤ n → deepL l ≤ szL l := by
    intro n
    induction n with
    | zero =>
      have hx : ∀ x : Ex, ¬ szE x ≤ 0 := fun x => by cases x; simp only [szE]; omega
      refine ⟨fun x h => absurd h (hx x), fun l h => ?_⟩
      cases l with
      | nil => exact Nat.zero_le _
      | cons x l => exact absurd (show szE x ≤ 0 by simp only [szL] at h; omega) (hx x)
    | succ n ih =>
      have hx : ∀ x, szE x ≤ n + 1 → deepE x ≤ szE x := fun x h => by
        cases x with
        | mk o nm k l a =>
          simp only [deepE, szE] at h ⊢
          have := ih.2 l (by omega)
          omega
      refine ⟨hx, fun l => ?_⟩
      induction l with
      | nil => intro _; exact Nat.zero_le _
      | cons x l ihl =>
        intro h
        simp only [deepL, szL] at h ⊢
        have := hx x (by omega)
        have := ihl (by omega)
        omega
  exact ⟨fun x => (key _).1 x (Nat.le_refl _), fun l => (key _).2 l (Nat.le_refl _)⟩
/-- The texts of parts, and brackets around them. -/
def allT (ts : List (Bs × Bool)) : Nat := sumF (fun p => p.1.length + 2) ts
theorem clo_len (p : Bs × Bool) : (clo p).length ≤ p.1.length + 2 := by
  unfold clo
  split
  · simp only [List.length_append, List.length_cons, List.length_nil]; omega
  · omega
theorem part_len (ts : List (Bs × Bool)) : (part0 ts 0).length + (part0 ts 1).length ≤ allT ts := by
  unfold part0 allT
  match ts with
  | [] => simp
  | [a] => simp [sumF]
  | a :: b :: r => simp [sumF]; omega
theorem clos_len (ts : List (Bs × Bool)) : (clos ts 0).length + (clos ts 1).length ≤ allT ts := by
  unfold clos allT
  match ts with
  | [] => simp
  | [a] => have := clo_len a; simp [sumF]; omega
  | a :: b :: r => have := clo_len a; have := clo_len b; simp [sumF]; omega
theorem form_len (o nm : ByteArray) {k : Int} (hk : In64 k) (ts : List (Bs × Bool)) : (form Lib.itoa o nm k ts).length ≤ 24 + nm.size + o.size + allT ts := by
  have h1 := Lib.itoa_length_le k hk.1 hk.2
  have h2 := part_len ts
  have h3 := clos_len ts
  have h4 : nm.data.toList.length = nm.size := rfl
  have h5 : o.data.toList.length = o.size := rfl
  unfold form
  repeat' split
  all_goals try simp only [List.length_append, List.length_cons, List.length_nil]
  all_goals omega
theorem allT_le {l : List Ex} (h : ∀ x ∈ l, (tE x).length + 2 ≤ 6 * costE x) : allT (tL l) ≤ 6 * costL l := by
  induction l with
  | nil => exact Nat.zero_le _
  | cons x l ih =>
    have h1 := h x (List.mem_cons_self ..)
    have h2 := ih (fun y hy => h y (List.mem_cons_of_mem _ hy))
    unfold allT tL at h2
    unfold allT tL
    unfold tE at h1
    simp only [textL, sumF, costL]
    omega
theorem costE_X (x : Ex) : costE x = x.op.size + x.nm.size + 6 + costL x.l := by cases x; rfl
theorem texts_len (n : Nat) : ∀ (P : Nat → Prop) (w : World) (l : List Ex) (v : Value), ExR P n w l v → allT (tL l) ≤ 6 * costL l := by
  induction n with
  | zero => intro P w l v h; exact h.elim
  | succ n ih =>
    intro P w l v h
    obtain ⟨A, cap, -, -, -, h4⟩ := h
    refine allT_le fun x hx => ?_
    obtain ⟨i, hi⟩ := List.getElem?_of_mem hx
    obtain ⟨b, off, L, -, -, -, e4, -, e6⟩ := h4 i x hi
    have h1 := ih P w x.l L e6
    have h2 := form_len x.op x.nm e4 (tL x.l)
    rw [tE_form, costE_X]
    omega
/-- An expression's text is not long. -/
theorem text_len {n : Nat} {P : Nat → Prop} {w : World} {x : Ex} {v : Value} (h : ExR P n w x.l v) (hk : In64 x.n) (hc : costE x ≤ 1048576) : (form Lib.itoa x.op x.nm x.n (tL x.l)).length ≤ 140737488355328 := by
  have h1 := texts_len n P w x.l v h
  have h2 := form_len x.op x.nm hk (tL x.l)
  rw [costE_X] at hc
  omega
end Go.Proofs.YtklfcjimgnnlfaaDoor
