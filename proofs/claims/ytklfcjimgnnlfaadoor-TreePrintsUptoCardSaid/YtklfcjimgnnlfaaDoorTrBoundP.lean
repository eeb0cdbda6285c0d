/- The tree layer: what is written of a program is not long; what is the same is written alike. -/
import Derived.Test.YtklfcjimgnnlfaaDoorTrArgsP
import Derived.Test.YtklfcjimgnnlfaaDoorTrBoundB
namespace Go.Proofs.YtklfcjimgnnlfaaDoor
open Go.RowKit
theorem flat_len {α : Type} (f : α → Bs) (g : α → Nat) : ∀ (l : List α), (∀ x ∈ l, (f x).length ≤ g x) → (l.flatMap f).length ≤ sumF g l := by
  intro l
  induction l with
  | nil => intro _; exact Nat.zero_le _
  | cons x l ih =>
    intro h
    have h1 := h x (List.mem_cons_self ..)
    have h2 := ih (fun y hy => h y (List.mem_cons_of_mem _ hy))
    simp only [List.flatMap_cons, List.length_append, sumF]
    omega
theorem inter_len (s : Bs) : ∀ l : List Bs, (List.intercalate s l).length ≤ sumF (fun x => x.length + s.length) l := by
  intro l
  match l with
  | [] => simp [List.intercalate, sumF]
  | [a] => simp [List.intercalate, sumF]
  | a :: b :: r =>
    have ih := inter_len s (b :: r)
    have e : List.intercalate s (a :: b :: r) = a ++ s ++ List.intercalate s (b :: r) := by simp [List.intercalate]
    rw [e]
    simp only [List.length_append, sumF] at ih ⊢
    omega
theorem sumF_map {α β : Type} (f : β → Nat) (h : α → β) : ∀ l : List α, sumF f (l.map h) = sumF (fun x => f (h x)) l := by
  intro l
  induction l with
  | nil => rfl
  | cons x l ih => simp only [List.map_cons, sumF, ih]
theorem sumF_le {α : Type} (f g : α → Nat) : ∀ l : List α, (∀ x ∈ l, f x ≤ g x) → sumF f l ≤ sumF g l := by
  intro l
  induction l with
  | nil => intro _; exact Nat.le_refl _
  | cons x l ih =>
    intro h
    have h1 := h x (List.mem_cons_self ..)
    have h2 := ih (fun y hy => h y (List.mem_cons_of_mem _ hy))
    simp only [sumF]
    omega
theorem sumF_mul {α : Type} (f : α → Nat) (c : Nat) : ∀ l : List α, sumF (fun x => c * f x) l = c * sumF f l := by
  intro l
  induction l with
  | nil => rfl
  | cons x l ih => simp only [sumF, ih, Nat.mul_add]
theorem sumF_in {α : Type} (f : α → Nat) {l : List α} {x : α} (h : x ∈ l) : f x ≤ sumF f l := by
  induction l with
  | nil => cases h
  | cons y l ih =>
    simp only [sumF]
    cases List.mem_cons.1 h with
    | inl e => subst e; omega
    | inr e => have := ih e; omega
theorem enum_len (e : ByteArray × List ByteArray) : (enumF e).length ≤ 8 * costEn e := by
  have h := inter_len [44, 32] (e.2.map (·.data.toList))
  rw [sumF_map] at h
  have h2 : sumF (fun x : ByteArray => x.data.toList.length + ([44, 32] : Bs).length) e.2 ≤ sumF (fun x => 2 * costT x) e.2 := sumF_le _ _ _ (fun x _ => by
    have : x.data.toList.length = x.size := rfl
    simp only [costT, List.length_cons, List.length_nil]
    omega)
  rw [sumF_mul] at h2
  have h3 : e.1.data.toList.length = e.1.size := rfl
  unfold enumF costEn
  simp only [List.length_append, List.length_cons, List.length_nil]
  omega
theorem var_len (v : ByteArray × ByteArray × Int) (hk : In64 v.2.2) : (varF Lib.itoa v).length ≤ 16 * costVa v := by
  have h1 := Lib.itoa_length_le v.2.2 hk.1 hk.2
  have h3 : v.1.data.toList.length = v.1.size := rfl
  have h4 : v.2.1.data.toList.length = v.2.1.size := rfl
  unfold varF costVa
  split
  · simp only [List.length_append, List.length_cons, List.length_nil]; omega
  · simp only [List.length_append, List.length_cons, List.length_nil]; omega
theorem proc_len (x : ByteArray × List St) : (procF Lib.itoa x).length = 10 + x.1.size + (textB Lib.itoa x.2 1).length := by
  have h3 : x.1.data.toList.length = x.1.size := rfl
  unfold procF
  simp only [List.length_append, List.length_cons, List.length_nil, block_len]
  omega
/-- A program's text is not long, and it is not deep. -/
theorem print_len {n : Nat} {P : Nat → Prop} {w : World} {p : Pg} {vE vV vP vM : Value} (h : PgR P n w p vE vV vP vM) (hc : costP p ≤ 1048576) : (printF Lib.itoa p).length ≤ 140737488355328 := by
  unfold costP at hc
  have a1 : (p.enums.flatMap enumF).length ≤ sumF (fun x => 8 * costEn x) p.enums := flat_len _ _ _ (fun x _ => enum_len x)
  rw [sumF_mul] at a1
  obtain ⟨A2, c2, -, -, -, hv⟩ := h.va
  have a2 : (p.vars.flatMap (varF Lib.itoa)).length ≤ sumF (fun x => 16 * costVa x) p.vars := flat_len _ _ _ (fun x hx => by
    obtain ⟨i, hi⟩ := List.getElem?_of_mem hx
    obtain ⟨b, off, -, -, -, h64⟩ := hv i x hi
    exact var_len x h64)
  rw [sumF_mul] at a2
  obtain ⟨A3, c3, -, -, -, hp⟩ := h.pr
  have a3 : (p.procs.flatMap (procF Lib.itoa)).length ≤ sumF (fun x => 2097152 * costPr x) p.procs := flat_len _ _ _ (fun x hx => by
    obtain ⟨i, hi⟩ := List.getElem?_of_mem hx
    obtain ⟨b, off, L, -, -, -, hs⟩ := hp i x hi
    have h1 := sumF_in costPr hx
    have h2 := depB_cost.2 x.2
    have h0 : costPr x = x.1.size + 2 + costB x.2 := rfl
    have h3 := textB_len n P w x.2 L 1 1048577 hs (by omega)
    rw [proc_len]
    omega)
  rw [sumF_mul] at a3
  have a4 := rows_ok h.mn (by omega)
  unfold printF
  simp only [List.length_append, List.length_cons, List.length_nil, block_len]
  omega
theorem print_deep {p : Pg} (hc : costP p ≤ 1048576) : depB p.main ≤ 1099511627776 ∧ ∀ q ∈ p.procs, depB q.2 ≤ 1099511627776 := by
  unfold costP at hc
  refine ⟨by have := depB_cost.2 p.main; omega, fun q hq => ?_⟩
  have h1 := sumF_in costPr hq
  have h2 := depB_cost.2 q.2
  have h0 : costPr q = q.1.size + 2 + costB q.2 := rfl
  omega
end Go.Proofs.YtklfcjimgnnlfaaDoor
