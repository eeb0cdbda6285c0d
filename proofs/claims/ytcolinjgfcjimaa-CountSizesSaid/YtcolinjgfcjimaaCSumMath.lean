/- The cubes' weights are the numbers told; all values' numbers are all numbers. -/
import Derived.Test.YtcolinjgfcjimaaCLawMath
namespace Go.Proofs.Ytcolinjgfcjimaa
open Go.RowKit

/-- The numbers of a cube, halved for each of the first i variables that it fixes. -/
def wt (m : Nat) : Nat → Nat
  | 0 => 4096
  | i + 1 => if m.testBit i = true then wt m i / 2 else wt m i
def pc (m : Nat) : Nat → Nat
  | 0 => 0
  | i + 1 => pc m i + if m.testBit i = true then 1 else 0
theorem pc_le (m : Nat) : ∀ i, pc m i ≤ i
  | 0 => Nat.le_refl _
  | i + 1 => by have := pc_le m i; show pc m i + _ ≤ _; split <;> omega
theorem wt_pow (m : Nat) : ∀ i, i ≤ 12 → wt m i = 2 ^ (12 - pc m i)
  | 0, _ => rfl
  | i + 1, h => by
    have h1 := wt_pow m i (by omega)
    have h2 := pc_le m i
    show (if m.testBit i = true then wt m i / 2 else wt m i) = 2 ^ (12 - (pc m i + if m.testBit i = true then 1 else 0))
    by_cases hb : m.testBit i = true
    · rw [if_pos hb, if_pos hb, h1]
      obtain ⟨u, hu⟩ : ∃ u, 12 - pc m i = u + 1 := ⟨12 - pc m i - 1, by omega⟩
      rw [hu, show 12 - (pc m i + 1) = u by omega, Nat.pow_succ, Nat.mul_div_cancel _ (by omega)]
    · rw [if_neg hb, if_neg hb, h1, Nat.add_zero]
theorem wt_le (m : Nat) : ∀ i, wt m i ≤ 4096
  | 0 => Nat.le_refl _
  | i + 1 => by have := wt_le m i; show (if _ then _ else _) ≤ _; split; exact Nat.le_trans (Nat.div_le_self _ _) this; exact this
theorem pc_ext {m v : Nat} (hv : m.testBit v = false) : ∀ i, pc (m ||| 1 <<< v) i = pc m i + if v < i then 1 else 0
  | 0 => by simp [pc]
  | i + 1 => by
    have ih := pc_ext hv i
    show pc (m ||| 1 <<< v) i + _ = (pc m i + _) + _
    rw [ih, Nat.testBit_or, one_bit]
    by_cases h : i = v
    · subst h
      simp [hv]
    · by_cases h2 : v < i
      · simp [h, h2, show v < i + 1 by omega]; omega
      · simp [h, h2, show ¬ v < i + 1 by omega]
theorem wt_ext {m v : Nat} (hv : m.testBit v = false) (h : v < 12) : wt m 12 = 2 * wt (m ||| 1 <<< v) 12 := by
  rw [wt_pow m 12 (Nat.le_refl _), wt_pow _ 12 (Nat.le_refl _), pc_ext hv, if_pos h]
  have h1 := pc_le (m ||| 1 <<< v) 12
  rw [pc_ext hv, if_pos h] at h1
  obtain ⟨u, hu⟩ : ∃ u, 12 - pc m 12 = u + 1 := ⟨12 - pc m 12 - 1, by omega⟩
  rw [hu, show 12 - (pc m 12 + 1) = u by omega, Nat.pow_succ, Nat.mul_comm]
def wtsN (C : List Cb) : Nat := (C.map fun c => wt c.1 12).sum
theorem wts_ext {L : List Nd} {r v : Int} {val : Int} {u : Nat} (h0 : 0 ≤ v) (h1 : v < 12) (hw : ∀ w ∈ waysL L r, w.1.1.testBit v.toNat = false) : wtsN (cubesOf val (waysL L r)) = 2 * wtsN (cubesOf val ((waysL L r).map (extW v u))) := by
  generalize waysL L r = l at hw
  induction l with
  | nil => rfl
  | cons x l ih =>
    have ih := ih fun w hw' => hw w (List.mem_cons_of_mem _ hw')
    have hx := wt_ext (hw x (List.mem_cons_self ..)) (show v.toNat < 12 by omega)
    unfold cubesOf wtsN at ih ⊢
    rw [List.map_cons]
    by_cases hv : valueP x.2 = val
    · have hv' : valueP (extW v u x).2 = val := hv
      rw [List.filter_cons_of_pos (by simpa using hv), List.filter_cons_of_pos (by simpa using hv')]
      simp only [List.map_cons, List.sum_cons]
      rw [ih]
      have hxe : (extW v u x).1.1 = x.1.1 ||| 1 <<< v.toNat := rfl
      rw [hxe, hx]
      omega
    · have hv' : ¬ valueP (extW v u x).2 = val := hv
      rw [List.filter_cons_of_neg (by simpa using hv), List.filter_cons_of_neg (by simpa using hv')]
      exact ih
theorem cubesOf_app (val : Int) (a b : List Way) : cubesOf val (a ++ b) = cubesOf val a ++ cubesOf val b := by
  unfold cubesOf; rw [List.filter_append, List.map_append]
theorem wts_app (a b : List Cb) : wtsN (a ++ b) = wtsN a + wtsN b := by
  unfold wtsN; rw [List.map_append, List.sum_append]
section
variable {L : List Nd}
theorem bit_free (hR : RightL L) {r v : Int} (hv : v < varP L r) (h0 : 0 ≤ v) : ∀ w ∈ waysL L r, w.1.1.testBit v.toNat = false := fun w hw => by
  cases h : w.1.1.testBit v.toNat
  · rfl
  · have := ((ways_from hR r w hw).1 _ h).1; omega
theorem sat_node (hR : RightL L) {k : Nat} {x : Nd} (hx : L[k]? = some x) (val : Int) : satN L 12 val (k : Int) = satN L 12 val x.2.1 / 2 + satN L 12 val x.2.2 / 2 := by
  unfold satN; exact fold_node hR hx
/-- All cubes' numbers together are the numbers told. -/
theorem wts_sat (hR : RightL L) (val : Int) : ∀ r, wtsN (cubesL L val r) = satN L 12 val r := by
  refine down hR (fun r hr => ?_) fun k x hx _ _ h2 h3 => ?_
  · unfold cubesL satN cubesOf wtsN
    rw [ways_out hr, fold_out hr]
    by_cases h : valueP r = val
    · simp [h, wt]
    · simp [h]
  · obtain ⟨⟨v0, v1⟩, -, ⟨-, l2⟩, -, l3⟩ := hR.1 _ _ hx
    rw [sat_node hR hx, ← h2, ← h3]
    unfold cubesL
    rw [ways_node hR hx, cubesOf_app, wts_app, wts_ext (u := 0) v0 v1 (bit_free hR l2 v0), wts_ext (u := 1) v0 v1 (bit_free hR l3 v0)]
    omega
theorem sat_twice (hR : RightL L) {k : Nat} {x : Nd} (hx : L[k]? = some x) (val : Int) : 2 * satN L 12 val (k : Int) = satN L 12 val x.2.1 + satN L 12 val x.2.2 := by
  obtain ⟨⟨v0, v1⟩, -, ⟨-, l2⟩, -, l3⟩ := hR.1 _ _ hx
  rw [sat_node hR hx, ← wts_sat hR val x.2.1, ← wts_sat hR val x.2.2]
  unfold cubesL
  rw [wts_ext (u := 0) v0 v1 (bit_free hR l2 v0), wts_ext (u := 1) v0 v1 (bit_free hR l3 v0)]
  omega
def satsN (L : List Nd) (V : List Int) (r : Int) : Nat := (V.map fun v => satN L 12 v r).sum
theorem sum_two {α : Type} (V : List α) (a b c : α → Nat) (h : ∀ v, 2 * a v = b v + c v) : 2 * (V.map a).sum = (V.map b).sum + (V.map c).sum := by
  induction V with
  | nil => rfl
  | cons v V ih => simp only [List.map_cons, List.sum_cons]; have := h v; omega
theorem sats_leaf {V : List Int} (hV : V.Nodup) {y : Int} (hy : y ∈ V) : (V.map fun v => if y = v then 4096 else 0).sum = 4096 := by
  induction V with
  | nil => cases hy
  | cons v V ih =>
    rw [List.nodup_cons] at hV
    simp only [List.map_cons, List.sum_cons]
    by_cases h : y = v
    · subst h
      have : ∀ (U : List Int), y ∉ U → (U.map fun v => if y = v then 4096 else 0).sum = 0 := by
        intro U hU
        induction U with
        | nil => rfl
        | cons u U ih =>
          simp only [List.mem_cons, not_or] at hU
          simp only [List.map_cons, List.sum_cons]
          rw [if_neg hU.1, ih hU.2]
      rw [if_pos rfl, this V hV.1]
    · rw [if_neg h, Nat.zero_add]
      exact ih hV.2 ((List.mem_cons.1 hy).resolve_left h)
theorem sats_all (hR : RightL L) {V : List Int} (hV : V.Nodup) : ∀ r, hasP L.length r = true → (∀ t, Reach L r t → t < 0 → valueP t ∈ V) → satsN L V r = 4096 := by
  refine down hR (fun r hr hh ht => ?_) fun k x hx q2 q3 h2 h3 hh ht => ?_
  · rw [hasP_iff] at hh
    have h := sats_leaf hV (ht r .self (by omega))
    unfold satsN satN
    simp only [fold_out hr]
    exact h
  · have e := sum_two V (fun v => satN L 12 v (k : Int)) (fun v => satN L 12 v x.2.1) (fun v => satN L 12 v x.2.2) fun v => sat_twice hR hx v
    have e2 := h2 q2 fun t hr h0 => ht t (Reach.trans (.low .self hx) hr) h0
    have e3 := h3 q3 fun t hr h0 => ht t (Reach.trans (.high .self hx) hr) h0
    unfold satsN at e2 e3 ⊢
    omega
theorem vals_nodup (hR : RightL L) {f : Int} (hf : hasP L.length f = true) {R : List Int} (h1 : R.Nodup) (h2 : ∀ r, r ∈ R ↔ Reach L f r) : (valsP R).Nodup := by
  unfold valsP
  rw [List.Nodup, List.pairwise_map]
  refine List.Pairwise.imp_of_mem ?_ (h1.filter fun r => decide (r < 0))
  intro a b ha hb hne h
  rw [List.mem_filter] at ha hb
  have pa := ((h2 a).1 ha.1).has hR hf
  have pb := ((h2 b).1 hb.1).has hR hf
  rw [hasP_iff] at pa pb
  have na : a < 0 := by simpa using ha.2
  have nb : b < 0 := by simpa using hb.2
  unfold valueP at h
  rw [if_neg (by omega), if_neg (by omega)] at h
  exact hne (by omega)
theorem sats_vals (hR : RightL L) {f : Int} (hf : hasP L.length f = true) {R : List Int} (h1 : R.Nodup) (h2 : ∀ r, r ∈ R ↔ Reach L f r) : satsN L (sortP (valsP R)) f = 4096 := by
  have hp := sort_perm (valsP R)
  refine sats_all hR (hp.symm.nodup (vals_nodup hR hf h1 h2)) f hf fun t ht h0 => hp.symm.subset ?_
  unfold valsP
  exact List.mem_map.2 ⟨t, List.mem_filter.2 ⟨(h2 t).2 ht, by simpa using h0⟩, rfl⟩
end
end Go.Proofs.Ytcolinjgfcjimaa
