/- The contracts of and, or, xor. -/
import Derived.Test.YtdgjbbcalffbcaaBSplitAny
namespace Go.Proofs.Ytdgjbbcalffbcaa
open Go.RowKit
attribute [local go_sem ↓] Go.wp_at_zero Go.wp_at_succ

theorem var_lt12 {L : List Nd} (hR : RightL L) {r : Int} (h0 : 0 ≤ r) (h1 : r < (L.length : Int)) : varP L r < 12 := by
  obtain ⟨k, rfl⟩ : ∃ k : Nat, r = (k : Int) := ⟨r.toNat, by omega⟩
  have hk : k < L.length := by omega
  have hx : L[k]? = some L[k] := List.getElem?_eq_getElem hk
  rw [varP_at hx]
  exact (hR.1 _ _ hx).1.2
/-- The top of two refs of which one is a node. -/
theorem top_nat {L : List Nd} (hR : RightL L) {f g : Int} {v : Nat} (hf : InB L.length f) (h0 : 0 ≤ f) (vf : (v : Int) ≤ varP L f) (vg : (v : Int) ≤ varP L g) : ∃ t : Nat, topP L [f, g] = (t : Int) ∧ t < 12 ∧ v ≤ t := by
  have h1 := var_lt12 hR h0 hf.2
  have h2 := varP_ge hR f
  have h3 := varP_ge hR g
  refine ⟨(topP L [f, g]).toNat, ?_, ?_, ?_⟩ <;> rw [top_two] <;> omega
theorem top_nat2 {L : List Nd} (hR : RightL L) {f g : Int} {v : Nat} (hf : InB L.length f) (hg : InB L.length g) (h0 : 0 ≤ f ∨ 0 ≤ g) (vf : (v : Int) ≤ varP L f) (vg : (v : Int) ≤ varP L g) : ∃ t : Nat, topP L [f, g] = (t : Int) ∧ t < 12 ∧ v ≤ t := by
  have h2 := varP_ge hR f
  have h3 := varP_ge hR g
  have h1 : varP L f < 12 ∨ varP L g < 12 := h0.imp (fun h => var_lt12 hR h hf.2) (fun h => var_lt12 hR h hg.2)
  refine ⟨(topP L [f, g]).toNat, ?_, ?_, ?_⟩ <;> rw [top_two] <;> omega
section
variable {m lim : Nat}
theorem ret_ref {W : World} {own : Nat → Prop} {L : List Nd} {F : Nat → Bool} {v : Nat} {r : Int} (h : Mg W own m lim L) (hT : Tells L F r) : RetOp F v own m lim L W (.returned (.tuple #[.int .i64 r, .nilIface])) W :=
  ⟨own, L, h, Went.refl _ _, grew_refl _ _, told_ref hT⟩
theorem and_step (hl : lim ≤ 65536) {v : Nat} (hop : ∀ t, v ≤ t → t < 12 → Does2 40 (-1) m lim (t + 1)) : Does2 40 (-1) m lim v := by
  intro W own L f g h hf hg vf vg
  have eo : ∀ a b, o2 (-1) a b = (a && b) := fun _ _ => rfl
  have out : ∀ r, InB L.length r → (∀ b, fn L r b = (fn L f b && fn L g b)) → RetOp (fun b => o2 (-1) (fn L f b) (fn L g b)) v own m lim L W (.returned (.tuple #[.int .i64 r, .nilIface])) W := fun r hr he => ret_ref h ⟨hr, he⟩
  by_cases h1 : f = -1
  · subst h1
    have HO := Lib.hid (out (-1) hf (fun b => by rw [fn_false]; rfl))
    clear h out hop vf vg hf hg
    go_enter Try.func40, Try.ntmps40
    go_wp2_with fail
    go_ret2
    exact HO.out
  by_cases h2 : g = -1
  · subst h2
    have HO := Lib.hid (out (-1) hg (fun b => by rw [fn_false, Bool.and_false]))
    clear h out hop vf vg hf hg
    go_enter Try.func40, Try.ntmps40
    go_wp2_with fail
    go_ret2
    exact HO.out
  by_cases h3 : f = -2
  · subst h3
    have HO := Lib.hid (out g hg (fun b => by rw [fn_true, Bool.true_and]))
    clear h out hop vf vg hf hg
    go_enter Try.func40, Try.ntmps40
    go_wp2_with fail
    go_ret2
    exact HO.out
  by_cases h4 : f = g
  · subst h4
    have HO := Lib.hid (out f hg (fun b => by rw [Bool.and_self]))
    clear h out hop vf vg hf hg
    go_enter Try.func40, Try.ntmps40
    go_wp2_with fail
    go_ret2
    exact HO.out
  by_cases h5 : g = -2
  · subst h5
    have HO := Lib.hid (out f hf (fun b => by rw [fn_true, Bool.and_true]))
    clear h out hop vf vg hf hg
    go_enter Try.func40, Try.ntmps40
    go_wp2_with fail
    go_ret2
    exact HO.out
  · have h0 : 0 ≤ f := by unfold InB at hf; omega
    obtain ⟨t, htop, ht, hvt⟩ := top_nat h.right hf h0 vf vg
    have HS := Lib.hid ((split_any h hl (k := -1) (.inl rfl) (enters_of Try.func40 (by kernel_rfl) rfl) (hop t hvt ht) ht hf hg htop).mono fun _ _ hr => hr.mono hvt)
    have q1 : (f == -1) = false := by simp [h1]
    have q2 : (g == -1) = false := by simp [h2]
    have q3 : (f == -2) = false := by simp [h3]
    have q4 : (f == g) = false := by simp [h4]
    have q5 : (g == -2) = false := by simp [h5]
    clear h out hop vf vg hf hg h0 htop ht hvt
    go_enter Try.func40, Try.ntmps40
    go_wp2_with (go_at_call 60; ((with_reducible refine HS.out.mono ?_); rintro e w3 ⟨own3, L3, h3, q3, g3, x3, ev3, rfl, hev⟩))
    go_ret2
    exact ⟨own3, L3, h3, q3, g3, x3, ev3, rfl, hev⟩
theorem or_step (hl : lim ≤ 65536) {v : Nat} (hop : ∀ t, v ≤ t → t < 12 → Does2 50 (-2) m lim (t + 1)) : Does2 50 (-2) m lim v := by
  intro W own L f g h hf hg vf vg
  have eo : ∀ a b, o2 (-2) a b = (a || b) := fun _ _ => rfl
  have out : ∀ r, InB L.length r → (∀ b, fn L r b = (fn L f b || fn L g b)) → RetOp (fun b => o2 (-2) (fn L f b) (fn L g b)) v own m lim L W (.returned (.tuple #[.int .i64 r, .nilIface])) W := fun r hr he => ret_ref h ⟨hr, he⟩
  by_cases h1 : f = -2
  · subst h1
    have HO := Lib.hid (out (-2) hf (fun b => by rw [fn_true]; rfl))
    clear h out hop vf vg hf hg
    go_enter Try.func50, Try.ntmps50
    go_wp2_with fail
    go_ret2
    exact HO.out
  by_cases h2 : g = -2
  · subst h2
    have HO := Lib.hid (out (-2) hg (fun b => by rw [fn_true, Bool.or_true]))
    clear h out hop vf vg hf hg
    go_enter Try.func50, Try.ntmps50
    go_wp2_with fail
    go_ret2
    exact HO.out
  by_cases h3 : f = -1
  · subst h3
    have HO := Lib.hid (out g hg (fun b => by rw [fn_false, Bool.false_or]))
    clear h out hop vf vg hf hg
    go_enter Try.func50, Try.ntmps50
    go_wp2_with fail
    go_ret2
    exact HO.out
  by_cases h4 : f = g
  · subst h4
    have HO := Lib.hid (out f hg (fun b => by rw [Bool.or_self]))
    clear h out hop vf vg hf hg
    go_enter Try.func50, Try.ntmps50
    go_wp2_with fail
    go_ret2
    exact HO.out
  by_cases h5 : g = -1
  · subst h5
    have HO := Lib.hid (out f hf (fun b => by rw [fn_false, Bool.or_false]))
    clear h out hop vf vg hf hg
    go_enter Try.func50, Try.ntmps50
    go_wp2_with fail
    go_ret2
    exact HO.out
  · have h0 : 0 ≤ f := by unfold InB at hf; omega
    obtain ⟨t, htop, ht, hvt⟩ := top_nat h.right hf h0 vf vg
    have HS := Lib.hid ((split_any h hl (k := -2) (.inr (.inl rfl)) (enters_of Try.func50 (by kernel_rfl) rfl) (hop t hvt ht) ht hf hg htop).mono fun _ _ hr => hr.mono hvt)
    have q1 : (f == -2) = false := by simp [h1]
    have q2 : (g == -2) = false := by simp [h2]
    have q3 : (f == -1) = false := by simp [h3]
    have q4 : (f == g) = false := by simp [h4]
    have q5 : (g == -1) = false := by simp [h5]
    clear h out hop vf vg hf hg h0 htop ht hvt
    go_enter Try.func50, Try.ntmps50
    go_wp2_with (go_at_call 60; ((with_reducible refine HS.out.mono ?_); rintro e w3 ⟨own3, L3, h3, q3, g3, x3, ev3, rfl, hev⟩))
    go_ret2
    exact ⟨own3, L3, h3, q3, g3, x3, ev3, rfl, hev⟩
theorem xor_step (hl : lim ≤ 65536) {v : Nat} (hop : ∀ t, v ≤ t → t < 12 → Does2 39 (-3) m lim (t + 1)) : Does2 39 (-3) m lim v := by
  intro W own L f g h hf hg vf vg
  have eo : ∀ a b, o2 (-3) a b = (a != b) := fun _ _ => rfl
  have out : ∀ r, InB L.length r → (∀ b, fn L r b = (fn L f b != fn L g b)) → RetOp (fun b => o2 (-3) (fn L f b) (fn L g b)) v own m lim L W (.returned (.tuple #[.int .i64 r, .nilIface])) W := fun r hr he => ret_ref h ⟨hr, he⟩
  by_cases h1 : f = g
  · subst h1
    have HO := Lib.hid (out (-1) (by unfold InB; omega) (fun b => by rw [fn_false]; simp))
    clear h out hop vf vg hf hg
    go_enter Try.func39, Try.ntmps39
    go_wp2_with fail
    go_ret2
    exact HO.out
  by_cases h2 : f = -1
  · subst h2
    have HO := Lib.hid (out g hg (fun b => by rw [fn_false]; simp))
    clear h out hop vf vg hf hg
    go_enter Try.func39, Try.ntmps39
    go_wp2_with fail
    go_ret2
    exact HO.out
  by_cases h3 : g = -1
  · subst h3
    have HO := Lib.hid (out f hf (fun b => by rw [fn_false]; simp))
    clear h out hop vf vg hf hg
    go_enter Try.func39, Try.ntmps39
    go_wp2_with fail
    go_ret2
    exact HO.out
  · have h0 : 0 ≤ f ∨ 0 ≤ g := by unfold InB at hf hg; omega
    obtain ⟨t, htop, ht, hvt⟩ := top_nat2 h.right hf hg h0 vf vg
    have HS := Lib.hid ((split_any h hl (k := -3) (.inr (.inr rfl)) (enters_of Try.func39 (by kernel_rfl) rfl) (hop t hvt ht) ht hf hg htop).mono fun _ _ hr => hr.mono hvt)
    have q1 : (f == g) = false := by simp [h1]
    have q2 : (f == -1) = false := by simp [h2]
    have q3 : (g == -1) = false := by simp [h3]
    clear h out hop vf vg hf hg h0 htop ht hvt
    go_enter Try.func39, Try.ntmps39
    go_wp2_with (go_at_call 60; ((with_reducible refine HS.out.mono ?_); rintro e w3 ⟨own3, L3, h3, q3, g3, x3, ev3, rfl, hev⟩))
    go_ret2
    exact ⟨own3, L3, h3, q3, g3, x3, ev3, rfl, hev⟩
theorem and_all (hl : lim ≤ 65536) : ∀ n v, 12 - v ≤ n → Does2 40 (-1) m lim v
  | 0, v, h => and_step hl fun t h1 h2 => absurd h2 (by omega)
  | n + 1, v, h => and_step hl fun t h1 h2 => and_all hl n (t + 1) (by omega)
theorem and_any (hl : lim ≤ 65536) (v : Nat) : Does2 40 (-1) m lim v := and_all hl 12 v (by omega)
theorem or_all (hl : lim ≤ 65536) : ∀ n v, 12 - v ≤ n → Does2 50 (-2) m lim v
  | 0, v, h => or_step hl fun t h1 h2 => absurd h2 (by omega)
  | n + 1, v, h => or_step hl fun t h1 h2 => or_all hl n (t + 1) (by omega)
theorem or_any (hl : lim ≤ 65536) (v : Nat) : Does2 50 (-2) m lim v := or_all hl 12 v (by omega)
theorem xor_all (hl : lim ≤ 65536) : ∀ n v, 12 - v ≤ n → Does2 39 (-3) m lim v
  | 0, v, h => xor_step hl fun t h1 h2 => absurd h2 (by omega)
  | n + 1, v, h => xor_step hl fun t h1 h2 => xor_all hl n (t + 1) (by omega)
theorem xor_any (hl : lim ≤ 65536) (v : Nat) : Does2 39 (-3) m lim v := xor_all hl 12 v (by omega)
end
end Go.Proofs.Ytdgjbbcalffbcaa
