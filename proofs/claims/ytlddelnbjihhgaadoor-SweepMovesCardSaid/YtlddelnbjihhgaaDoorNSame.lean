/- Two refs of one row are the same just if all bits lead to the same from both. Nothing of the program stands here. -/
import Derived.Test.YtlddelnbjihhgaaDoorNMath
namespace Go.Proofs.YtlddelnbjihhgaaDoor

/-- Where the bits lead: from a node on there is always a way to go; with its number, and one more, there are enough steps. -/
def endP (L : List Nd) (bits : Nat) (r : Int) : Int := walkP L bits (r + 1).toNat r
theorem walkP_step {L : List Nd} {bits f : Nat} {r : Int} {k : Nat} {x : Nd} (h : L[k]? = some x) (hr : r = (k : Int)) : walkP L bits (f + 1) r = walkP L bits f (if bits.testBit x.1.toNat = true then x.2.2 else x.2.1) := by
  have hk := get_len h
  have e : L.getD r.toNat (0, 0, 0) = x := by rw [hr, List.getD_eq_getElem?_getD]; simp [h]
  show (if _ then _ else _) = _
  rw [if_pos (by omega), e]
theorem walkP_out {L : List Nd} {bits : Nat} {r : Int} (h : ¬ (0 ≤ r ∧ r < (L.length : Int))) : ∀ f, walkP L bits f r = r
  | 0 => rfl
  | f + 1 => by show (if _ then _ else _) = _; rw [if_neg h]
/-- More steps than enough lead to the same. -/
theorem walkP_more {L : List Nd} (hR : RightL L) (bits : Nat) : ∀ (f : Nat) (r : Int), r < f → ∀ g, f ≤ g → walkP L bits g r = walkP L bits f r := by
  intro f
  induction f with
  | zero => intro r hr g _; rw [walkP_out (by omega), walkP_out (by omega)]
  | succ f ih =>
    intro r hr g hg
    by_cases h : 0 ≤ r ∧ r < (L.length : Int)
    · obtain ⟨g, rfl⟩ : ∃ g', g = g' + 1 := ⟨g - 1, by omega⟩
      have hk : r.toNat < L.length := by omega
      have hx : L[r.toNat]? = some L[r.toNat] := List.getElem?_eq_getElem hk
      have hr' : r = (r.toNat : Int) := by omega
      rw [walkP_step hx hr', walkP_step hx hr']
      obtain ⟨-, -, ⟨h1, -⟩, h2, -⟩ := hR.1 _ _ hx
      rw [hasP_iff] at h1 h2
      split
      · exact ih _ (by omega) g (by omega)
      · exact ih _ (by omega) g (by omega)
    · rw [walkP_out h, walkP_out h]
theorem endP_node {L : List Nd} (hR : RightL L) (bits : Nat) {k : Nat} {x : Nd} (h : L[k]? = some x) : endP L bits k = endP L bits (if bits.testBit x.1.toNat = true then x.2.2 else x.2.1) := by
  unfold endP
  have e : ((k : Int) + 1).toNat = k + 1 := by omega
  rw [e, walkP_step h rfl]
  obtain ⟨-, -, ⟨h1, -⟩, h2, -⟩ := hR.1 _ _ h
  rw [hasP_iff] at h1 h2
  split
  · exact walkP_more hR bits _ _ (by omega) _ (by omega)
  · exact walkP_more hR bits _ _ (by omega) _ (by omega)
theorem endP_out {L : List Nd} {bits : Nat} {r : Int} (h : ¬ (0 ≤ r ∧ r < (L.length : Int))) : endP L bits r = r := walkP_out h _
theorem varP_at {L : List Nd} {k : Nat} {x : Nd} (h : L[k]? = some x) : varP L k = x.1 := by
  unfold varP
  rw [if_pos (by have := get_len h; omega), List.getD_eq_getElem?_getD]
  simp [h]
theorem varP_le {L : List Nd} (hR : RightL L) (r : Int) : varP L r ≤ 12 := by
  unfold varP
  split
  · rename_i h
    have hk : r.toNat < L.length := by omega
    have hx : L[r.toNat]? = some L[r.toNat] := List.getElem?_eq_getElem hk
    have := (hR.1 _ _ hx).1
    rw [List.getD_eq_getElem?_getD, hx]
    simp
    omega
  · omega
/-- Bits below a ref's variable do not matter. -/
theorem endP_flip {L : List Nd} (hR : RightL L) {b c : Nat} : ∀ (n : Nat) (r : Int), r < n → (∀ v : Nat, varP L r ≤ v → b.testBit v = c.testBit v) → endP L b r = endP L c r := by
  intro n
  induction n with
  | zero => intro r hr _; rw [endP_out (by omega), endP_out (by omega)]
  | succ n ih =>
    intro r hr h
    by_cases h0 : 0 ≤ r ∧ r < (L.length : Int)
    · have hk : r.toNat < L.length := by omega
      have hx : L[r.toNat]? = some L[r.toNat] := List.getElem?_eq_getElem hk
      obtain ⟨k, rfl⟩ : ∃ k : Nat, r = (k : Int) := ⟨r.toNat, by omega⟩
      simp only [Int.toNat_natCast] at hx hk
      rw [varP_at hx] at h
      rw [endP_node hR b hx, endP_node hR c hx]
      obtain ⟨h0, -, ⟨h1, h3⟩, h2, h4⟩ := hR.1 _ _ hx
      rw [hasP_iff] at h1 h2
      rw [h L[k].1.toNat (by omega)]
      split
      · exact ih _ (by omega) fun v hv => h v (by omega)
      · exact ih _ (by omega) fun v hv => h v (by omega)
    · rw [endP_out h0, endP_out h0]
/-- The bits, with that of v as it is told. -/
def setBit (b v : Nat) (on : Bool) : Nat := if b.testBit v = on then b else b ^^^ (1 <<< v)
theorem setBit_at (b v : Nat) (on : Bool) : (setBit b v on).testBit v = on := by
  unfold setBit
  split
  · assumption
  · rename_i h
    rw [Nat.testBit_xor, Nat.testBit_shiftLeft]
    simp
    cases on <;> simp_all
theorem setBit_other (b : Nat) {v u : Nat} (on : Bool) (h : u ≠ v) : (setBit b v on).testBit u = b.testBit u := by
  unfold setBit
  split
  · rfl
  · rw [Nat.testBit_xor, Nat.testBit_shiftLeft]
    have : (decide (u ≥ v) && Nat.testBit 1 (u - v)) = false := by
      by_cases g : u ≥ v
      · obtain ⟨q, hq⟩ : ∃ q, u - v = q + 1 := ⟨u - v - 1, by omega⟩
        rw [hq, Nat.testBit_succ]
        simp
      · simp [g]
    rw [this]; simp
theorem setBit_lt {b v : Nat} (on : Bool) (hb : b < 4096) (hv : v < 12) : setBit b v on < 4096 := by
  unfold setBit
  split
  · exact hb
  · rw [Nat.one_shiftLeft]
    exact Nat.xor_lt_two_pow (n := 12) hb (Nat.pow_lt_pow_right (by omega) hv)
/-- Two refs that lead to the same, for all bits of 12, are the same. -/
theorem ends_same {L : List Nd} (hR : RightL L) : ∀ (n : Nat) (r s : Int), r < n → s < n → hasP L.length r = true → hasP L.length s = true → (∀ b, b < 4096 → endP L b r = endP L b s) → r = s := by
  intro n
  induction n with
  | zero => intro r s hr hs _ _ h; have := h 0 (by omega); rw [endP_out (by omega), endP_out (by omega)] at this; exact this
  | succ n ih =>
    -- the one of the smaller variable is a node: its children lead to the same, so they would be alike
    have key : ∀ (k : Nat) (x : Nd) (s : Int), L[k]? = some x → (k : Int) < n + 1 → s < n + 1 → hasP L.length s = true → x.1 < varP L s → (∀ b, b < 4096 → endP L b k = endP L b s) → False := by
      intro k x s hx hk hs hh hv h
      obtain ⟨h0, hne, ⟨h1, h3⟩, h2, h4⟩ := hR.1 _ _ hx
      have g1 := h1
      have g2 := h2
      rw [hasP_iff] at h1 h2
      have hkl := get_len hx
      refine hne (ih x.2.1 x.2.2 (by omega) (by omega) (hasP_mono (Nat.le_of_lt hkl) g1) (hasP_mono (Nat.le_of_lt hkl) g2) fun b hb => ?_)
      have flip : ∀ on, endP L (setBit b x.1.toNat on) s = endP L b s := fun on => endP_flip hR (s + 1).toNat s (by omega) fun v hv' => setBit_other b on (by omega)
      have lo : endP L b x.2.1 = endP L b s := by
        have e := h (setBit b x.1.toNat false) (setBit_lt _ hb (by omega))
        rw [flip, endP_node hR _ hx, setBit_at] at e
        rw [← e, if_neg (by simp)]
        exact endP_flip hR (x.2.1 + 1).toNat _ (by omega) fun v hv' => (setBit_other b false (by omega)).symm
      have hi : endP L b x.2.2 = endP L b s := by
        have e := h (setBit b x.1.toNat true) (setBit_lt _ hb (by omega))
        rw [flip, endP_node hR _ hx, setBit_at] at e
        rw [← e, if_pos rfl]
        exact endP_flip hR (x.2.2 + 1).toNat _ (by omega) fun v hv' => (setBit_other b true (by omega)).symm
      rw [lo, hi]
    intro r s hr hs hhr hhs h
    by_cases hrn : 0 ≤ r ∧ r < (L.length : Int)
    · obtain ⟨k, rfl⟩ : ∃ k : Nat, r = (k : Int) := ⟨r.toNat, by omega⟩
      have hx : L[k]? = some L[k] := List.getElem?_eq_getElem (by omega)
      by_cases hsn : 0 ≤ s ∧ s < (L.length : Int)
      · obtain ⟨j, rfl⟩ : ∃ j : Nat, s = (j : Int) := ⟨s.toNat, by omega⟩
        have hy : L[j]? = some L[j] := List.getElem?_eq_getElem (by omega)
        have hvx := varP_at hx
        have hvy := varP_at hy
        rcases Int.lt_trichotomy L[k].1 L[j].1 with hlt | heq | hgt
        · exact absurd (key k _ j hx hr hs hhs (by omega) h) (by simp)
        · obtain ⟨h0, hne, ⟨h1, h3⟩, h2, h4⟩ := hR.1 _ _ hx
          obtain ⟨k0, kne, ⟨k1, k3⟩, k2, k4⟩ := hR.1 _ _ hy
          have q1 := hasP_mono (Nat.le_of_lt (get_len hx)) h1
          have q2 := hasP_mono (Nat.le_of_lt (get_len hx)) h2
          have q3 := hasP_mono (Nat.le_of_lt (get_len hy)) k1
          have q4 := hasP_mono (Nat.le_of_lt (get_len hy)) k2
          rw [hasP_iff] at h1 h2 k1 k2
          have side : ∀ on b, b < 4096 → endP L b (if on = true then L[k].2.2 else L[k].2.1) = endP L b (if on = true then L[j].2.2 else L[j].2.1) := fun on b hb => by
            have e := h (setBit b L[k].1.toNat on) (setBit_lt _ hb (by omega))
            rw [endP_node hR _ hx, endP_node hR _ hy, ← heq, setBit_at] at e
            have fl : ∀ t : Int, t < n + 1 → L[k].1 < varP L t → endP L (setBit b L[k].1.toNat on) t = endP L b t := fun t _ ht => endP_flip hR (t + 1).toNat t (by omega) fun v hv' => setBit_other b on (by omega)
            rw [fl _ (by split <;> omega) (by split <;> assumption), fl _ (by split <;> omega) (by rw [heq]; split <;> assumption)] at e
            exact e
          have e1 : L[k].2.1 = L[j].2.1 := ih _ _ (by omega) (by omega) q1 q3 fun b hb => by simpa using side false b hb
          have e2 : L[k].2.2 = L[j].2.2 := ih _ _ (by omega) (by omega) q2 q4 fun b hb => by simpa using side true b hb
          have e : L[k] = L[j] := Prod.ext heq (Prod.ext e1 e2)
          have := hR.2 k j L[j] (by rw [hx, e]) hy
          rw [this]
        · exact absurd (key j _ k hy hs hr hhr (by omega) fun b hb => (h b hb).symm) (by simp)
      · have hv : varP L s = 12 := by unfold varP; rw [if_neg hsn]
        exact absurd (key k _ s hx hr hs hhs (by have := (hR.1 _ _ hx).1; omega) h) (by simp)
    · by_cases hsn : 0 ≤ s ∧ s < (L.length : Int)
      · obtain ⟨j, rfl⟩ : ∃ j : Nat, s = (j : Int) := ⟨s.toNat, by omega⟩
        have hy : L[j]? = some L[j] := List.getElem?_eq_getElem (by omega)
        have hv : varP L r = 12 := by unfold varP; rw [if_neg hrn]
        exact absurd (key j _ r hy hs hr hhr (by have := (hR.1 _ _ hy).1; omega) fun b hb => (h b hb).symm) (by simp)
      · have := h 0 (by omega)
        rw [endP_out hrn, endP_out hsn] at this
        exact this
end Go.Proofs.YtlddelnbjihhgaaDoor
