/- Diagrams of booleans, plainly: functions of bits, halves, and how many nodes come. Nothing of the program stands here. -/
import Derived.Test.YtdgjbbcalffbcaaNSame
namespace Go.Proofs.Ytdgjbbcalffbcaa

/-- A ref of n nodes of booleans: one of the two terminals, or a node. -/
def InB (n : Nat) (r : Int) : Prop := -2 ≤ r ∧ r < (n : Int)
instance (n : Nat) (r : Int) : Decidable (InB n r) := by unfold InB; infer_instance
/-- All children are such refs. -/
def AllB (L : List Nd) : Prop := ∀ (k : Nat) (x : Nd), L[k]? = some x → -2 ≤ x.2.1 ∧ -2 ≤ x.2.2
def fn (L : List Nd) (r : Int) (b : Nat) : Bool := decide (endP L b r = -2)
theorem inB_has {n : Nat} {r : Int} (h : InB n r) : hasP n r = true := by rw [hasP_iff]; unfold InB at h; omega
theorem inB_mono {n m : Nat} {r : Int} (h : InB n r) (hm : n ≤ m) : InB m r := by unfold InB at *; omega
theorem fn_false (L : List Nd) (b : Nat) : fn L (-1) b = false := by
  unfold fn; rw [endP_out (by omega)]; rfl
theorem fn_true (L : List Nd) (b : Nat) : fn L (-2) b = true := by
  unfold fn; rw [endP_out (by omega)]; rfl
section
variable {L : List Nd} (hR : RightL L)
include hR
theorem kids {k : Nat} {x : Nd} (hA : AllB L) (h : L[k]? = some x) : (0 ≤ x.1 ∧ x.1 < 12) ∧ x.2.1 ≠ x.2.2 ∧ InB k x.2.1 ∧ InB k x.2.2 ∧ x.1 < varP L x.2.1 ∧ x.1 < varP L x.2.2 := by
  obtain ⟨h0, hne, ⟨h1, h3⟩, h2, h4⟩ := hR.1 _ _ h
  have := hA _ _ h
  rw [hasP_iff] at h1 h2
  exact ⟨h0, hne, ⟨this.1, h1.2⟩, ⟨this.2, h2.2⟩, h3, h4⟩
theorem fn_node {k : Nat} {x : Nd} (h : L[k]? = some x) (b : Nat) : fn L k b = if b.testBit x.1.toNat = true then fn L x.2.2 b else fn L x.2.1 b := by
  unfold fn
  rw [endP_node hR b h]
  split <;> rfl
theorem fn_flip {r : Int} {b c : Nat} (h : ∀ v : Nat, varP L r ≤ v → b.testBit v = c.testBit v) : fn L r b = fn L r c := by
  unfold fn
  rw [endP_flip hR (r + 1).toNat r (by omega) h]
theorem end_b (hA : AllB L) (b : Nat) : ∀ (n : Nat) (r : Int), r < n → InB L.length r → endP L b r = -1 ∨ endP L b r = -2 := by
  intro n
  induction n with
  | zero =>
    intro r hr h
    unfold InB at h
    rw [endP_out (by omega)]
    omega
  | succ n ih =>
    intro r hr h
    by_cases h0 : 0 ≤ r
    · obtain ⟨k, rfl⟩ : ∃ k : Nat, r = (k : Int) := ⟨r.toNat, by omega⟩
      unfold InB at h
      have hx : L[k]? = some L[k] := List.getElem?_eq_getElem (by omega)
      obtain ⟨-, -, h1, h2, -⟩ := kids hR hA hx
      have hk := get_len hx
      rw [endP_node hR b hx]
      split
      · exact ih _ (by unfold InB at h2; omega) (inB_mono h2 (by omega))
      · exact ih _ (by unfold InB at h1; omega) (inB_mono h1 (by omega))
    · unfold InB at h
      rw [endP_out (by omega)]
      omega
theorem same_of_fn (hA : AllB L) {r s : Int} (hr : InB L.length r) (hs : InB L.length s) (h : ∀ b, b < 4096 → fn L r b = fn L s b) : r = s := by
  refine ends_same hR (r.toNat + s.toNat + 1) r s (by omega) (by omega) (inB_has hr) (inB_has hs) fun b hb => ?_
  have e := h b hb
  have e1 := end_b hR hA b (r + 1).toNat r (by omega) hr
  have e2 := end_b hR hA b (s + 1).toNat s (by omega) hs
  unfold fn at e
  rw [decide_eq_decide] at e
  omega
end
theorem at_more {L : List Nd} (M : List Nd) {k : Nat} (h : k < L.length) : (L ++ M)[k]? = L[k]? := List.getElem?_append_left h
theorem walkP_app {L : List Nd} (hR : RightL L) (M : List Nd) (b : Nat) : ∀ (f : Nat) (r : Int), r < (L.length : Int) → walkP (L ++ M) b f r = walkP L b f r := by
  intro f
  induction f with
  | zero => intro r _; rfl
  | succ f ih =>
    intro r hr
    by_cases h0 : 0 ≤ r
    · obtain ⟨k, rfl⟩ : ∃ k : Nat, r = (k : Int) := ⟨r.toNat, by omega⟩
      have hx : L[k]? = some L[k] := List.getElem?_eq_getElem (by omega)
      have hy : (L ++ M)[k]? = some L[k] := by rw [at_more M (by omega)]; exact hx
      rw [walkP_step hx rfl, walkP_step hy rfl]
      obtain ⟨-, -, ⟨h1, -⟩, h2, -⟩ := hR.1 _ _ hx
      rw [hasP_iff] at h1 h2
      exact ih _ (by split <;> omega)
    · rw [walkP_out (by omega), walkP_out (by omega)]
theorem fn_more {L : List Nd} (hR : RightL L) (M : List Nd) {r : Int} (h : InB L.length r) (b : Nat) : fn (L ++ M) r b = fn L r b := by
  unfold fn endP
  rw [walkP_app hR M b _ r h.2]
theorem var_app {L : List Nd} (M : List Nd) {r : Int} (h : InB L.length r) : varP (L ++ M) r = varP L r := by
  unfold InB at h
  unfold varP
  simp only [List.length_append]
  by_cases h0 : 0 ≤ r
  · rw [if_pos ⟨h0, by omega⟩, if_pos ⟨h0, h.2⟩, List.getD_eq_getElem?_getD, List.getD_eq_getElem?_getD, List.getElem?_append_left (by omega)]
  · rw [if_neg (fun g => h0 g.1), if_neg (fun g => h0 g.1)]
/-- Half of a ref by the bit v. -/
def halfP (L : List Nd) (r v : Int) (on : Bool) : Int :=
  if 0 ≤ r ∧ r < (L.length : Int) ∧ varP L r = v then (if on = true then (L.getD r.toNat (0, 0, 0)).2.2 else (L.getD r.toNat (0, 0, 0)).2.1) else r
theorem halfP_out {L : List Nd} {r v : Int} (on : Bool) (h : ¬ (0 ≤ r ∧ r < (L.length : Int) ∧ varP L r = v)) : halfP L r v on = r := if_neg h
theorem halfP_at {L : List Nd} {k : Nat} {x : Nd} (on : Bool) (h : L[k]? = some x) : halfP L k x.1 on = if on = true then x.2.2 else x.2.1 := by
  unfold halfP
  rw [if_pos ⟨by omega, by have := get_len h; omega, varP_at h⟩]
  have e : L.getD (k : Int).toNat (0, 0, 0) = x := by rw [List.getD_eq_getElem?_getD]; simp [h]
  rw [e]
theorem half_cases {L : List Nd} {r : Int} (h : InB L.length r) (v : Int) : (varP L r ≠ v ∨ r < 0) ∨ ∃ (k : Nat) (x : Nd), r = (k : Int) ∧ L[k]? = some x ∧ x.1 = v := by
  by_cases h0 : 0 ≤ r
  · by_cases hv : varP L r = v
    · obtain ⟨k, rfl⟩ : ∃ k : Nat, r = (k : Int) := ⟨r.toNat, by omega⟩
      have hkl : k < L.length := by have := h.2; omega
      have hx : L[k]? = some L[k] := List.getElem?_eq_getElem hkl
      exact .inr ⟨k, _, rfl, hx, by rw [varP_at hx] at hv; exact hv⟩
    · exact .inl (.inl hv)
  · exact .inl (.inr (by omega))
theorem varP_neg {L : List Nd} {r : Int} (h : r < 0) : varP L r = 12 := by unfold varP; rw [if_neg (by omega)]
theorem varP_ge {L : List Nd} (hR : RightL L) (r : Int) : 0 ≤ varP L r := by
  unfold varP
  split
  · rename_i h
    have hk : r.toNat < L.length := by omega
    have hx : L[r.toNat]? = some L[r.toNat] := List.getElem?_eq_getElem hk
    have := (hR.1 _ _ hx).1
    rw [List.getD_eq_getElem?_getD, hx]
    simp
    omega
  · omega
theorem half_fn {L : List Nd} (hR : RightL L) {r : Int} {v : Nat} (h : InB L.length r) (b : Nat) : fn L r b = fn L (halfP L r v (b.testBit v)) b := by
  rcases half_cases h v with hn | ⟨k, x, rfl, hx, hxv⟩
  · rw [halfP_out _ (by omega)]
  · have := halfP_at (b.testBit v) hx
    rw [hxv] at this
    rw [this, fn_node hR hx b]
    have e : x.1.toNat = v := by omega
    rw [e]
    split <;> rfl
section
variable {L : List Nd} (hR : RightL L) (hA : AllB L)
include hR hA
theorem half_in {r : Int} (h : InB L.length r) (v : Int) (on : Bool) : InB L.length (halfP L r v on) := by
  rcases half_cases h v with hn | ⟨k, x, rfl, hx, rfl⟩
  · rw [halfP_out on (by omega)]; exact h
  · rw [halfP_at on hx]
    obtain ⟨-, -, h1, h2, -⟩ := kids hR hA hx
    have hk := get_len hx
    split
    · exact inB_mono h2 (by omega)
    · exact inB_mono h1 (by omega)
theorem half_var {r : Int} {v : Nat} (h : InB L.length r) (hv : (v : Int) ≤ varP L r) (h12 : v < 12) (on : Bool) : ((v + 1 : Nat) : Int) ≤ varP L (halfP L r v on) := by
  rcases half_cases h v with hn | ⟨k, x, rfl, hx, hxv⟩
  · rw [halfP_out on (by omega)]
    rcases hn with hn | hn
    · omega
    · rw [varP_neg hn]; omega
  · have := halfP_at on hx
    rw [hxv] at this
    rw [this]
    obtain ⟨-, -, -, -, h3, h4⟩ := kids hR hA hx
    split <;> omega
end
theorem half_more {L : List Nd} (M : List Nd) {r : Int} (h : InB L.length r) (v : Int) (on : Bool) : halfP (L ++ M) r v on = halfP L r v on := by
  rcases half_cases h v with hn | ⟨k, x, rfl, hx, rfl⟩
  · have hv := var_app M h
    have e1 : halfP L r v on = r := halfP_out on (by omega)
    have e2 : halfP (L ++ M) r v on = r := halfP_out on (by rw [hv]; omega)
    rw [e1, e2]
  · have hy : (L ++ M)[k]? = some x := by rw [at_more M (get_len hx)]; exact hx
    rw [halfP_at on hx, halfP_at on hy]
/-- A ref that stands for F. -/
def Tells (L : List Nd) (F : Nat → Bool) (r : Int) : Prop := InB L.length r ∧ ∀ b, fn L r b = F b
theorem tells_self {L : List Nd} {r : Int} (h : InB L.length r) : Tells L (fn L r) r := ⟨h, fun _ => rfl⟩
theorem tells_more {L : List Nd} (hR : RightL L) (M : List Nd) {F : Nat → Bool} {r : Int} (h : Tells L F r) : Tells (L ++ M) F r :=
  ⟨inB_mono h.1 (by simp), fun b => (fn_more hR M h.1 b).trans (h.2 b)⟩
section
variable {L : List Nd} (hR : RightL L) (hA : AllB L)
include hR hA
theorem tells_one {F : Nat → Bool} {r s : Int} (h : Tells L F r) (g : Tells L F s) : r = s :=
  same_of_fn hR hA h.1 g.1 fun b _ => (h.2 b).trans (g.2 b).symm
/-- What does not hang on bits below v has no variable below v. -/
theorem tells_top {F : Nat → Bool} {r : Int} {v : Nat} (h : Tells L F r) (hv : v ≤ 12) (hF : ∀ b c : Nat, (∀ i, v ≤ i → b.testBit i = c.testBit i) → F b = F c) : (v : Int) ≤ varP L r := by
  rcases Nat.lt_or_ge (varP L r).toNat v with hlt | hge
  · exfalso
    have h0 : ¬ r < 0 := fun hn => by rw [varP_neg hn] at hlt; omega
    obtain ⟨k, rfl⟩ : ∃ k : Nat, r = (k : Int) := ⟨r.toNat, by omega⟩
    have hkl : k < L.length := by have := h.1.2; omega
    have hx : L[k]? = some L[k] := List.getElem?_eq_getElem hkl
    obtain ⟨q0, hne, h1, h2, h3, h4⟩ := kids hR hA hx
    rw [varP_at hx] at hlt
    have hk := get_len hx
    refine hne (same_of_fn hR hA (inB_mono h1 (by omega)) (inB_mono h2 (by omega)) fun b _ => ?_)
    have flip : ∀ (on : Bool) (t : Int), L[k].1 < varP L t → fn L t (setBit b L[k].1.toNat on) = fn L t b := fun on t ht => fn_flip hR fun u hu => setBit_other b on (by omega)
    have e0 := h.2 (setBit b L[k].1.toNat false)
    have e1 := h.2 (setBit b L[k].1.toNat true)
    rw [fn_node hR hx, setBit_at, if_neg (by simp), flip _ _ h3] at e0
    rw [fn_node hR hx, setBit_at, if_pos rfl, flip _ _ h4] at e1
    rw [e0, e1]
    refine hF _ _ fun i hi => ?_
    rw [setBit_other b false (by omega), setBit_other b true (by omega)]
  · have := varP_ge hR r
    omega
end
/-! ### How many nodes there are below N -/
def lowN (N : Nat) (L : List Nd) : Nat := (L.filter fun x => decide (x.1 < (N : Int))).length
theorem lowN_app (N : Nat) (L M : List Nd) : lowN N (L ++ M) = lowN N L + lowN N M := by unfold lowN; rw [List.filter_append, List.length_append]
theorem lowN_one (N : Nat) (x : Nd) : lowN N [x] = if x.1 < (N : Int) then 1 else 0 := by
  unfold lowN
  rw [List.filter_cons]
  split <;> simp_all
theorem lowN_le (N : Nat) (L : List Nd) : lowN N L ≤ L.length := List.length_filter_le _ _
/-- Each variable is one below N. -/
def AllV (N : Nat) (L : List Nd) : Prop := ∀ (k : Nat) (x : Nd), L[k]? = some x → x.1 < (N : Int)
theorem lowN_all {N : Nat} {L : List Nd} (h : AllV N L) : lowN N L = L.length := by
  unfold lowN
  rw [List.filter_eq_self.2]
  intro x hx
  obtain ⟨k, hk, rfl⟩ := List.getElem_of_mem hx
  exact decide_eq_true (h k _ (List.getElem?_eq_getElem hk))
theorem allV_12 {L : List Nd} (hR : RightL L) : AllV 12 L := fun k x h => by have := (hR.1 k x h).1; omega
/-- What an op on refs of variables from v on may bring. -/
structure Grew (v : Nat) (L L' : List Nd) : Prop where
  more : ∃ M, L' = L ++ M
  few : ∀ N, lowN N L' ≤ lowN N L + (2 ^ (N - v) - 1)
  vars : ∀ N, AllV N L → AllV N L'
theorem grew_refl (v : Nat) (L : List Nd) : Grew v L L := ⟨⟨[], by simp⟩, fun N => by omega, fun _ h => h⟩
theorem pow_mono {a b : Nat} (h : a ≤ b) : 2 ^ a ≤ 2 ^ b := Nat.pow_le_pow_right (by omega) h
theorem pow_pos2 (a : Nat) : 0 < 2 ^ a := Nat.pos_of_ne_zero (by simp)
theorem Grew.mono {v u : Nat} {L L' : List Nd} (h : Grew v L L') (hu : u ≤ v) : Grew u L L' :=
  ⟨h.more, fun N => by have := h.few N; have := pow_mono (show N - v ≤ N - u by omega); have := pow_pos2 (N - v); omega, h.vars⟩
theorem Grew.len {v : Nat} {L L' : List Nd} (h : Grew v L L') : L.length ≤ L'.length := by
  obtain ⟨M, rfl⟩ := h.more
  simp
/-- Two halves. -/
theorem grew_two {v : Nat} {L L1 L2 : List Nd} (h : Grew (v + 1) L L1) (g : Grew (v + 1) L1 L2) : Grew v L L2 := by
  refine ⟨?_, fun N => ?_, fun N hN => g.vars N (h.vars N hN)⟩
  · obtain ⟨M, rfl⟩ := h.more
    obtain ⟨M', rfl⟩ := g.more
    exact ⟨M ++ M', by simp⟩
  · have h1 := h.few N
    have h2 := g.few N
    have := pow_pos2 (N - (v + 1))
    by_cases hv : v < N
    · have e : N - v = (N - (v + 1)) + 1 := by omega
      rw [e, Nat.pow_succ]
      omega
    · have e : N - (v + 1) = 0 := by omega
      rw [e] at h1 h2
      simp at h1 h2
      omega
/-- Two halves, and a node. -/
theorem grew_node {v : Nat} {L L1 L2 : List Nd} {x : Nd} (h : Grew (v + 1) L L1) (g : Grew (v + 1) L1 L2) (hx : x.1 = (v : Int)) (hv : ∃ (k : Nat) (y : Nd), L[k]? = some y ∧ y.1 = (v : Int)) : Grew v L (L2 ++ [x]) := by
  refine ⟨?_, fun N => ?_, fun N hN => ?_⟩
  · obtain ⟨M, rfl⟩ := h.more
    obtain ⟨M', rfl⟩ := g.more
    exact ⟨M ++ M' ++ [x], by simp⟩
  · have h1 := h.few N
    have h2 := g.few N
    have := pow_pos2 (N - (v + 1))
    rw [lowN_app, lowN_one, hx]
    by_cases hv : v < N
    · have e : N - v = (N - (v + 1)) + 1 := by omega
      rw [e, Nat.pow_succ, if_pos (by omega)]
      omega
    · have e : N - (v + 1) = 0 := by omega
      rw [e] at h1 h2
      rw [if_neg (by omega)]
      simp at h1 h2
      omega
  · have h2 := g.vars N (h.vars N hN)
    intro k y hk
    by_cases hl : k < L2.length
    · rw [List.getElem?_append_left hl] at hk
      exact h2 k y hk
    · obtain ⟨j, z, hj, hz⟩ := hv
      have := hN j z hj
      have hkl := get_len hk
      simp at hkl
      obtain rfl : k = L2.length := by omega
      rw [List.getElem?_append_right (Nat.le_refl _)] at hk
      simp at hk
      subst hk
      omega
/-- Mk, where both children may be. -/
theorem mkP_b {lim : Nat} {L L' : List Nd} {v : Nat} {lo hi r c : Int} {F0 F1 : Nat → Bool} (hR : RightL L) (hA : AllB L) (hv : v < 12) (h0 : Tells L F0 lo) (h1 : Tells L F1 hi) (v0 : (v : Int) < varP L lo) (v1 : (v : Int) < varP L hi)
    (hm : mkP lim L v lo hi = (L', r, c)) :
    (c = 0 ∧ (L' = L ∨ L' = L ++ [((v : Int), lo, hi)]) ∧ AllB L' ∧ Tells L' (fun b => if b.testBit v = true then F1 b else F0 b) r) ∨ (c = 50 ∧ L' = L ∧ r = 0 ∧ lim ≤ L.length) := by
  have hc : (hasP L.length lo = true ∧ (v : Int) < varP L lo) ∧ (hasP L.length hi = true ∧ (v : Int) < varP L hi) := ⟨⟨inB_has h0.1, v0⟩, inB_has h1.1, v1⟩
  have hr' := mkP_right (lim := lim) hR v lo hi
  unfold mkP at hm
  rw [if_neg (by omega), if_neg (by simp [hc])] at hm
  by_cases e : lo = hi
  · rw [if_pos e] at hm
    injection hm with a b
    injection b with b d
    subst a b d
    refine .inl ⟨rfl, .inl rfl, hA, h0.1, fun b => ?_⟩
    show _ = if b.testBit v = true then F1 b else F0 b
    split
    · rw [e]; exact h1.2 b
    · exact h0.2 b
  rw [if_neg e] at hm
  have node : ∀ (K : List Nd) (k : Nat), RightL K → (∃ M, K = L ++ M) → K[k]? = some ((v : Int), lo, hi) → Tells K (fun b => if b.testBit v = true then F1 b else F0 b) k := fun K k hK ⟨M, hM⟩ hk => by
    have hkl := get_len hk
    refine ⟨⟨by omega, by omega⟩, fun b => ?_⟩
    rw [fn_node hK hk b]
    show (if b.testBit (v : Int).toNat = true then fn K hi b else fn K lo b) = _
    rw [Int.toNat_natCast, hM, fn_more hR M h0.1, fn_more hR M h1.1, h0.2, h1.2]
  cases hw : whereP L ((v : Int), lo, hi) with
  | some k =>
    rw [hw] at hm
    injection hm with a b
    injection b with b d
    subst a b d
    refine .inl ⟨rfl, .inl rfl, hA, node L k hR ⟨[], by simp⟩ ?_⟩
    unfold whereP at hw
    obtain ⟨hj, hp, -⟩ := List.findIdx?_eq_some_iff_getElem.1 hw
    have hp : L[k] = ((v : Int), lo, hi) := by simpa using hp
    rw [List.getElem?_eq_getElem hj, hp]
  | none =>
    rw [hw] at hm
    by_cases hl : lim ≤ L.length
    · simp only [if_pos hl] at hm
      injection hm with a b
      injection b with b d
      subst a b d
      exact .inr ⟨rfl, rfl, rfl, hl⟩
    · simp only [if_neg hl] at hm
      injection hm with a b
      injection b with b d
      subst a b d
      have hR2 : RightL (L ++ [((v : Int), lo, hi)]) := by
        have : mkP lim L v lo hi = (L ++ [((v : Int), lo, hi)], (L.length : Int), 0) := by
          unfold mkP
          rw [if_neg (by omega), if_neg (by simp [hc]), if_neg e, hw]
          simp only [if_neg hl]
        rw [this] at hr'
        exact hr'
      refine .inl ⟨rfl, .inr rfl, fun k x hx => ?_, node _ L.length hR2 ⟨_, rfl⟩ (by simp)⟩
      by_cases hkl : k < L.length
      · rw [List.getElem?_append_left hkl] at hx
        exact hA k x hx
      · have := get_len hx
        simp at this
        obtain rfl : k = L.length := by omega
        rw [List.getElem?_append_right (Nat.le_refl _)] at hx
        simp at hx
        subst hx
        exact ⟨h0.1.1, h1.1.1⟩
end Go.Proofs.Ytdgjbbcalffbcaa
