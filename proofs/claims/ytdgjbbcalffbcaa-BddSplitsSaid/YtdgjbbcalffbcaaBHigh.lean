/- How many nodes there are of the three highest variables: no more than functions. -/
import Derived.Test.YtdgjbbcalffbcaaBSuppRef
namespace Go.Proofs.Ytdgjbbcalffbcaa
open Go.RowKit

theorem nodup_len : ∀ (M : Nat) (l : List Nat), l.Nodup → (∀ x ∈ l, x < M) → l.length ≤ M
  | 0, [], _, _ => by simp
  | 0, a :: l, _, h => absurd (h a (by simp)) (by omega)
  | M + 1, l, hn, h => by
    by_cases hm : M ∈ l
    · have h1 := nodup_len M (l.erase M) (hn.erase M) fun x hx => by
        have h2 := hn.mem_erase_iff.1 hx
        have h3 := h x h2.2
        have h4 := h2.1
        omega
      have h3 := List.length_erase_of_mem hm
      have h4 : 0 < l.length := List.length_pos_of_mem hm
      omega
    · have h1 := nodup_len M l hn fun x hx => by
        have h2 := h x hx
        have h3 : x ≠ M := fun e => hm (e ▸ hx)
        omega
      omega
theorem bit9 (b : Nat) {v : Nat} (h : 9 ≤ v) : b.testBit v = (2 ^ 9 * (b / 2 ^ 9)).testBit v := by
  rw [Nat.testBit_two_pow_mul, Nat.testBit_div_two_pow, decide_eq_true h, Bool.true_and]
  congr 1
  omega
/-- The function of a node, by three bits. -/
def codeP (L : List Nd) (x : Nd) : Nat := suppS (fun j => if (2 ^ 9 * j).testBit x.1.toNat = true then fn L x.2.2 (2 ^ 9 * j) else fn L x.2.1 (2 ^ 9 * j)) 8
theorem split_len (p : Nd → Bool) : ∀ L : List Nd, L.length = (L.filter p).length + (L.filter fun x => !p x).length
  | [] => rfl
  | x :: L => by
    have ih := split_len p L
    rw [List.filter_cons, List.filter_cons]
    cases h : p x
    · simp only [Bool.not_false, if_true, Bool.false_eq_true, if_false, List.length_cons]
      omega
    · simp only [Bool.not_true, if_true, Bool.false_eq_true, if_false, List.length_cons]
      omega
theorem highs {L : List Nd} (hR : RightL L) (hA : AllB L) : L.length ≤ lowN 9 L + 256 := by
  have hp : L.Pairwise (fun x y => 9 ≤ x.1 → 9 ≤ y.1 → codeP L x ≠ codeP L y) := by
    rw [List.pairwise_iff_getElem]
    intro i j hi hj hij h9 h9' e
    have hx : L[i]? = some L[i] := List.getElem?_eq_getElem hi
    have hy : L[j]? = some L[j] := List.getElem?_eq_getElem hj
    have key : (i : Int) = (j : Int) := same_of_fn hR hA ⟨by omega, by omega⟩ ⟨by omega, by omega⟩ fun b hb => by
      have f1 : fn L i b = fn L i (2 ^ 9 * (b / 2 ^ 9)) := fn_flip hR fun v hv => bit9 b (by rw [varP_at hx] at hv; omega)
      have f2 : fn L j b = fn L j (2 ^ 9 * (b / 2 ^ 9)) := fn_flip hR fun v hv => bit9 b (by rw [varP_at hy] at hv; omega)
      rw [f1, f2, fn_node hR hx, fn_node hR hy]
      have h8 : b / 2 ^ 9 < 8 := by omega
      have g := congrArg (fun n => n.testBit (b / 2 ^ 9)) e
      simp only [codeP, suppS_at, decide_eq_true h8, Bool.true_and] at g
      exact g
    omega
  have hq : ((L.filter fun x => !decide (x.1 < ((9 : Nat) : Int))).map (codeP L)).Nodup := by
    rw [List.Nodup, List.pairwise_map]
    refine List.Pairwise.imp_of_mem ?_ (hp.filter _)
    intro a b ha hb h
    have h1 := (List.mem_filter.1 ha).2
    have h2 := (List.mem_filter.1 hb).2
    simp at h1 h2
    exact h h1 h2
  have hl := nodup_len 256 _ hq fun x hx => by
    obtain ⟨y, -, rfl⟩ := List.mem_map.1 hx
    exact suppS_lt _ 8
  rw [List.length_map] at hl
  have e := split_len (fun x => decide (x.1 < ((9 : Nat) : Int))) L
  unfold lowN
  omega
theorem room {L : List Nd} (hR : RightL L) (hA : AllB L) {c : Nat} (hl : lowN 9 L ≤ c * 511) (hc : c ≤ 83) : L.length < 65536 := by
  have h1 := highs hR hA
  have h2 : c * 511 ≤ 83 * 511 := Nat.mul_le_mul hc (Nat.le_refl _)
  omega
end Go.Proofs.Ytdgjbbcalffbcaa
