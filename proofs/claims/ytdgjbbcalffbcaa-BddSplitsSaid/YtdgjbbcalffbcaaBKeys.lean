/- What stands in the memo of diagrams: keys, and what they say; which variables a diagram hangs on. Nothing of the program stands here. -/
import Derived.Test.YtdgjbbcalffbcaaBMath
import Derived.Test.YtdgjbbcalffbcaaMMath
namespace Go.Proofs.Ytdgjbbcalffbcaa

/-! ### Support -/
def suppN (L : List Nd) : Nat → Int → Nat
  | 0, _ => 0
  | f + 1, r => if 0 ≤ r ∧ r < (L.length : Int) then (2 ^ (L.getD r.toNat (0, 0, 0)).1.toNat ||| suppN L f (L.getD r.toNat (0, 0, 0)).2.1) ||| suppN L f (L.getD r.toNat (0, 0, 0)).2.2 else 0
/-- On which variables a ref hangs, as bits. -/
def suppP (L : List Nd) (r : Int) : Nat := suppN L (r + 1).toNat r
theorem suppN_step {L : List Nd} {f k : Nat} {x : Nd} (h : L[k]? = some x) : suppN L (f + 1) k = (2 ^ x.1.toNat ||| suppN L f x.2.1) ||| suppN L f x.2.2 := by
  have hk := get_len h
  have e : L.getD (k : Int).toNat (0, 0, 0) = x := by rw [List.getD_eq_getElem?_getD]; simp [h]
  show (if _ then _ else _) = _
  rw [if_pos (by omega), e]
theorem suppN_out {L : List Nd} {r : Int} (h : ¬ (0 ≤ r ∧ r < (L.length : Int))) : ∀ f, suppN L f r = 0
  | 0 => rfl
  | f + 1 => by show (if _ then _ else _) = _; rw [if_neg h]
theorem suppN_more {L : List Nd} (hR : RightL L) : ∀ (f : Nat) (r : Int), r < f → ∀ g, f ≤ g → suppN L g r = suppN L f r := by
  intro f
  induction f with
  | zero => intro r hr g _; rw [suppN_out (by omega), suppN_out (by omega)]
  | succ f ih =>
    intro r hr g hg
    by_cases h : 0 ≤ r ∧ r < (L.length : Int)
    · obtain ⟨g, rfl⟩ : ∃ g', g = g' + 1 := ⟨g - 1, by omega⟩
      obtain ⟨k, rfl⟩ : ∃ k : Nat, r = (k : Int) := ⟨r.toNat, by omega⟩
      have hx : L[k]? = some L[k] := List.getElem?_eq_getElem (by omega)
      rw [suppN_step hx, suppN_step hx]
      obtain ⟨-, -, ⟨h1, -⟩, h2, -⟩ := hR.1 _ _ hx
      rw [hasP_iff] at h1 h2
      rw [ih L[k].2.1 (by omega) g (by omega), ih L[k].2.2 (by omega) g (by omega)]
    · rw [suppN_out h, suppN_out h]
theorem supp_node {L : List Nd} (hR : RightL L) {k : Nat} {x : Nd} (h : L[k]? = some x) : suppP L k = (2 ^ x.1.toNat ||| suppP L x.2.1) ||| suppP L x.2.2 := by
  have e : suppP L k = suppN L (k + 1) k := by unfold suppP; congr 1
  obtain ⟨-, -, ⟨h1, -⟩, h2, -⟩ := hR.1 _ _ h
  rw [hasP_iff] at h1 h2
  rw [e, suppN_step h]
  have a := suppN_more hR (x.2.1 + 1).toNat x.2.1 (by omega) k (by omega)
  have b := suppN_more hR (x.2.2 + 1).toNat x.2.2 (by omega) k (by omega)
  unfold suppP
  rw [a, b]
theorem supp_out {L : List Nd} {r : Int} (h : ¬ (0 ≤ r ∧ r < (L.length : Int))) : suppP L r = 0 := suppN_out h _
theorem supp_all {L : List Nd} (hR : RightL L) {P : Int → Prop} (h0 : ∀ r, ¬ (0 ≤ r ∧ r < (L.length : Int)) → P r) (h1 : ∀ (k : Nat) (x : Nd), L[k]? = some x → P x.2.1 → P x.2.2 → P k) : ∀ r, P r := by
  have : ∀ (n : Nat) (r : Int), r < n → P r := by
    intro n
    induction n with
    | zero => intro r hr; exact h0 r (by omega)
    | succ n ih =>
      intro r hr
      by_cases h : 0 ≤ r ∧ r < (L.length : Int)
      · obtain ⟨k, rfl⟩ : ∃ k : Nat, r = (k : Int) := ⟨r.toNat, by omega⟩
        have hx : L[k]? = some L[k] := List.getElem?_eq_getElem (by omega)
        obtain ⟨-, -, ⟨g1, -⟩, g2, -⟩ := hR.1 _ _ hx
        rw [hasP_iff] at g1 g2
        exact h1 k _ hx (ih _ (by omega)) (ih _ (by omega))
      · exact h0 r h
  exact fun r => this (r + 1).toNat r (by omega)
theorem supp_lt {L : List Nd} (hR : RightL L) (r : Int) : suppP L r < 4096 := by
  refine supp_all hR (P := fun r => suppP L r < 4096) (fun r h => by rw [supp_out h]; omega) (fun k x hx h1 h2 => ?_) r
  rw [supp_node hR hx]
  have hv := (hR.1 k x hx).1
  have h0 : 2 ^ x.1.toNat < 2 ^ 12 := Nat.pow_lt_pow_right (by omega) (by omega)
  exact Nat.or_lt_two_pow (n := 12) (Nat.or_lt_two_pow (n := 12) h0 h1) h2
theorem supp_app {L : List Nd} (hR : RightL L) (M : List Nd) (hR2 : RightL (L ++ M)) {r : Int} (h : r < (L.length : Int)) : suppP (L ++ M) r = suppP L r := by
  revert h
  refine supp_all hR (P := fun r => r < (L.length : Int) → suppP (L ++ M) r = suppP L r) (fun r h h1 => ?_) (fun k x hx h1 h2 _ => ?_) r
  · rw [supp_out h, supp_out (by omega)]
  · have hy : (L ++ M)[k]? = some x := by rw [at_more M (get_len hx)]; exact hx
    obtain ⟨-, -, ⟨g1, -⟩, g2, -⟩ := hR.1 _ _ hx
    rw [hasP_iff] at g1 g2
    have := get_len hx
    rw [supp_node hR hx, supp_node hR2 hy, h1 (by omega), h2 (by omega)]
/-- A ref hangs on a variable just if it is one of its support's. -/
theorem supp_flip {L : List Nd} (hR : RightL L) (hA : AllB L) (v : Nat) : ∀ r, (InB L.length r → (suppP L r).testBit v = true → ∃ b, b < 4096 ∧ fn L r (setBit b v false) ≠ fn L r (setBit b v true)) ∧ ((suppP L r).testBit v = false → ∀ b on, fn L r (setBit b v on) = fn L r b) := by
  refine supp_all hR (fun r h => ⟨fun _ ht => ?_, fun _ b on => ?_⟩) (fun k x hx h1 h2 => ?_)
  · rw [supp_out h] at ht; simp at ht
  · unfold fn; rw [endP_out h, endP_out h]
  · obtain ⟨q0, hne, g1, g2, g3, g4⟩ := kids hR hA hx
    have hk := get_len hx
    have i1 := inB_mono g1 (show k ≤ L.length by omega)
    have i2 := inB_mono g2 (show k ≤ L.length by omega)
    have keep : ∀ (b u : Nat) (on : Bool) (t : Int), (u : Int) < varP L t → fn L t (setBit b u on) = fn L t b := fun b u on t ht => fn_flip hR fun i hi => setBit_other b on (by omega)
    constructor
    · intro _ ht
      rw [supp_node hR hx, Nat.testBit_or, Nat.testBit_or, Nat.testBit_two_pow] at ht
      by_cases hv : x.1.toNat = v
      · -- the node's own variable: its children differ somewhere
        have : ∃ b, b < 4096 ∧ fn L x.2.1 b ≠ fn L x.2.2 b := by
          refine Classical.byContradiction fun hn => hne (same_of_fn hR hA i1 i2 fun b hb => ?_)
          exact Classical.byContradiction fun h => hn ⟨b, hb, h⟩
        obtain ⟨b, hb, hd⟩ := this
        refine ⟨b, hb, ?_⟩
        rw [fn_node hR hx, fn_node hR hx, hv, setBit_at, setBit_at, if_neg (by simp), if_pos rfl, keep _ _ _ _ (by omega), keep _ _ _ _ (by omega)]
        exact hd
      · have side : ∀ (on : Bool) (t : Int), x.1 < varP L t → (∃ b, b < 4096 ∧ fn L t (setBit b v false) ≠ fn L t (setBit b v true)) → t = (if on = true then x.2.2 else x.2.1) → ∃ b, b < 4096 ∧ fn L k (setBit b v false) ≠ fn L k (setBit b v true) := by
          rintro on t ht ⟨b, hb, hd⟩ rfl
          refine ⟨setBit b x.1.toNat on, setBit_lt _ hb (by omega), ?_⟩
          have sw : ∀ on2, fn L k (setBit (setBit b x.1.toNat on) v on2) = fn L (if on = true then x.2.2 else x.2.1) (setBit b v on2) := fun on2 => by
            rw [fn_node hR hx, setBit_other _ _ hv, setBit_at]
            have : ∀ t, x.1 < varP L t → fn L t (setBit (setBit b x.1.toNat on) v on2) = fn L t (setBit b v on2) := fun t ht => fn_flip hR fun i hi => by
              by_cases e : i = v
              · rw [e, setBit_at, setBit_at]
              · rw [setBit_other _ _ e, setBit_other _ _ e, setBit_other _ _ (by omega)]
            cases on
            · rw [if_neg (by simp)]; exact this _ g3
            · rw [if_pos rfl]; exact this _ g4
          rw [sw, sw]
          exact hd
        have ht : (suppP L x.2.1).testBit v = true ∨ (suppP L x.2.2).testBit v = true := by
          simp [hv] at ht
          exact ht
        rcases ht with ht | ht
        · exact side false _ g3 (h1.1 i1 ht) rfl
        · exact side true _ g4 (h2.1 i2 ht) rfl
    · intro ht b on
      rw [supp_node hR hx, Nat.testBit_or, Nat.testBit_or, Nat.testBit_two_pow] at ht
      simp at ht
      obtain ⟨⟨hv, e1⟩, e2⟩ := ht
      rw [fn_node hR hx, fn_node hR hx, setBit_other _ _ hv, h1.2 e1, h2.2 e2]

/-! ### Keys -/
open Mem (Ky Pl getP putP atP slotP)
/-- What a key says. -/
def keyF (L : List Nd) (k : Ky) (b : Nat) : Bool :=
  if k.1 = -1 then fn L k.2.1 b && fn L k.2.2 b
  else if k.1 = -2 then fn L k.2.1 b || fn L k.2.2 b
  else if k.1 = -3 then fn L k.2.1 b != fn L k.2.2 b
  else if k.1 = -4 then fn L k.2.1 (setBit b k.2.2.toNat false) || fn L k.2.1 (setBit b k.2.2.toNat true)
  else if k.1 = -5 then fn L k.2.1 (setBit b k.2.2.toNat false)
  else if k.1 = -6 then fn L k.2.1 (setBit b k.2.2.toNat true)
  else if k.1 < 0 then fn L k.2.1 (setBit b (-8 - k.1).toNat (fn L k.2.2 b))
  else if fn L k.1 b = true then fn L k.2.1 b else fn L k.2.2 b
def keyIn (n : Nat) (k : Ky) : Prop := k.1 < (n : Int) ∧ InB n k.2.1 ∧ ((-7 ≤ k.1 ∧ k.1 ≤ -4) ∨ InB n k.2.2)
def keyOk (L : List Nd) (k : Ky) (val : Int) : Prop := keyIn L.length k ∧ (k.1 = -7 → val = (suppP L k.2.1 : Nat)) ∧ (k.1 ≠ -7 → Tells L (keyF L k) val)
theorem keyF_more {L : List Nd} (hR : RightL L) (M : List Nd) {k : Ky} (h : keyIn L.length k) (h7 : k.1 ≠ -7) (b : Nat) : keyF (L ++ M) k b = keyF L k b := by
  obtain ⟨h1, h2, h3⟩ := h
  have e2 : ∀ b, fn (L ++ M) k.2.1 b = fn L k.2.1 b := fn_more hR M h2
  unfold keyF
  simp only [e2]
  by_cases c4 : -7 ≤ k.1 ∧ k.1 ≤ -4
  · rcases (show k.1 = -4 ∨ k.1 = -5 ∨ k.1 = -6 by omega) with e | e | e <;> simp [e]
  · have e3 : ∀ b, fn (L ++ M) k.2.2 b = fn L k.2.2 b := fn_more hR M (h3.resolve_left c4)
    simp only [e3]
    by_cases c0 : k.1 < 0
    · simp only [if_pos c0]
    · have e1 : fn (L ++ M) k.1 b = fn L k.1 b := fn_more hR M ⟨by omega, h1⟩ b
      simp only [e1]
theorem keyIn_mono {n m : Nat} {k : Ky} (h : keyIn n k) (hm : n ≤ m) : keyIn m k :=
  ⟨by have := h.1; omega, inB_mono h.2.1 hm, h.2.2.imp id fun h => inB_mono h hm⟩
theorem keyOk_more {L : List Nd} (hR : RightL L) (M : List Nd) (hR2 : RightL (L ++ M)) {k : Ky} {val : Int} (h : keyOk L k val) : keyOk (L ++ M) k val := by
  refine ⟨keyIn_mono h.1 (by simp), fun h7 => ?_, fun h7 => ?_⟩
  · rw [supp_app hR M hR2 h.1.2.1.2]
    exact h.2.1 h7
  · have := tells_more hR M (h.2.2 h7)
    exact ⟨this.1, fun b => (this.2 b).trans (keyF_more hR M h.1 h7 b).symm⟩
/-- All that stands is so. -/
def SoundT (L : List Nd) (T : Nat → Pl) : Prop := ∀ s x, T s = some x → keyOk L x.1 x.2
theorem sound_none (L : List Nd) : SoundT L Mem.noneP := fun s x h => by cases h
theorem sound_more {L : List Nd} (hR : RightL L) (M : List Nd) (hR2 : RightL (L ++ M)) {T : Nat → Pl} (h : SoundT L T) : SoundT (L ++ M) T := fun s x hs => keyOk_more hR M hR2 (h s x hs)
theorem sound_put {L : List Nd} {T : Nat → Pl} (h : SoundT L T) (n : Nat) {k : Ky} {val : Int} (hk : keyOk L k val) : SoundT L (putP n T (k, val)) := fun s x hs => by
  unfold putP at hs
  split at hs
  · injection hs with hs
    rw [← hs]; exact hk
  · exact h s x hs
theorem sound_get {L : List Nd} {T : Nat → Pl} (h : SoundT L T) {n : Nat} {k : Ky} {val : Int} (hg : getP n T k = (val, true)) : keyOk L k val := by
  unfold getP atP at hg
  split at hg
  · cases hg
  · rename_i x hx
    split at hg
    · rename_i hk
      injection hg with hg _
      rw [← hk, ← hg]
      exact h _ _ hx
    · cases hg
end Go.Proofs.Ytdgjbbcalffbcaa
