/- What a diagram says, plainly: folds over a ref, the refs below it, its ways. Nothing of the program stands here. -/
import Derived.Test.YtlddelnbjihhgaaDoorNSame
namespace Go.Proofs.YtlddelnbjihhgaaDoor

/-- What comes of a ref: of what is no node 'leaf', of a node 'node' of its variable and of what came of its children. -/
def foldF {β : Type} (L : List Nd) (leaf : Int → β) (node : Int → β → β → β) : Nat → Int → β
  | 0, r => leaf r
  | f + 1, r => if 0 ≤ r ∧ r < (L.length : Int) then node (L.getD r.toNat (0, 0, 0)).1 (foldF L leaf node f (L.getD r.toNat (0, 0, 0)).2.1) (foldF L leaf node f (L.getD r.toNat (0, 0, 0)).2.2) else leaf r
def fold {β : Type} (L : List Nd) (leaf : Int → β) (node : Int → β → β → β) (r : Int) : β := foldF L leaf node (r + 1).toNat r
section
variable {β : Type} {L : List Nd} {leaf : Int → β} {node : Int → β → β → β}
theorem foldF_out {r : Int} (h : ¬ (0 ≤ r ∧ r < (L.length : Int))) : ∀ f, foldF L leaf node f r = leaf r
  | 0 => rfl
  | f + 1 => by show (if _ then _ else _) = _; rw [if_neg h]
theorem foldF_step {f k : Nat} {x : Nd} (h : L[k]? = some x) : foldF L leaf node (f + 1) (k : Int) = node x.1 (foldF L leaf node f x.2.1) (foldF L leaf node f x.2.2) := by
  have hk := get_len h
  have e : L.getD ((k : Int).toNat) (0, 0, 0) = x := by rw [List.getD_eq_getElem?_getD]; simp [h]
  show (if _ then _ else _) = _
  rw [if_pos (by omega), e]
theorem foldF_more (hR : RightL L) : ∀ (f : Nat) (r : Int), r < f → ∀ g, f ≤ g → foldF L leaf node g r = foldF L leaf node f r := by
  intro f
  induction f with
  | zero => intro r hr g _; rw [foldF_out (by omega), foldF_out (by omega)]
  | succ f ih =>
    intro r hr g hg
    by_cases h : 0 ≤ r ∧ r < (L.length : Int)
    · obtain ⟨g, rfl⟩ : ∃ g', g = g' + 1 := ⟨g - 1, by omega⟩
      obtain ⟨k, rfl⟩ : ∃ k : Nat, r = (k : Int) := ⟨r.toNat, by omega⟩
      have hx : L[k]? = some L[k] := List.getElem?_eq_getElem (by omega)
      rw [foldF_step hx, foldF_step hx]
      obtain ⟨-, -, ⟨h1, -⟩, h2, -⟩ := hR.1 _ _ hx
      rw [hasP_iff] at h1 h2
      rw [ih _ (by omega) g (by omega), ih _ (by omega) g (by omega)]
    · rw [foldF_out h, foldF_out h]
theorem fold_out {r : Int} (h : ¬ (0 ≤ r ∧ r < (L.length : Int))) : fold L leaf node r = leaf r := foldF_out h _
theorem fold_node (hR : RightL L) {k : Nat} {x : Nd} (h : L[k]? = some x) : fold L leaf node (k : Int) = node x.1 (fold L leaf node x.2.1) (fold L leaf node x.2.2) := by
  obtain ⟨-, -, ⟨h1, -⟩, h2, -⟩ := hR.1 _ _ h
  rw [hasP_iff] at h1 h2
  unfold fold
  rw [show ((k : Int) + 1).toNat = k + 1 by omega, foldF_step h, foldF_more hR (x.2.1 + 1).toNat x.2.1 (by omega) k (by omega), foldF_more hR (x.2.2 + 1).toNat x.2.2 (by omega) k (by omega)]
/-- An induction down the diagram: the number of a child is less than its node's. -/
theorem down {C : Int → Prop} (hR : RightL L) (h0 : ∀ r, ¬ (0 ≤ r ∧ r < (L.length : Int)) → C r) (h1 : ∀ (k : Nat) (x : Nd), L[k]? = some x → hasP L.length x.2.1 = true → hasP L.length x.2.2 = true → C x.2.1 → C x.2.2 → C (k : Int)) : ∀ r, C r := by
  have key : ∀ (f : Nat) (r : Int), r < f → C r := by
    intro f
    induction f with
    | zero => intro r hr; exact h0 r (by omega)
    | succ f ih =>
      intro r hr
      by_cases h : 0 ≤ r ∧ r < (L.length : Int)
      · obtain ⟨k, rfl⟩ : ∃ k : Nat, r = (k : Int) := ⟨r.toNat, by omega⟩
        have hx : L[k]? = some L[k] := List.getElem?_eq_getElem (by omega)
        obtain ⟨-, -, ⟨g1, -⟩, g2, -⟩ := hR.1 _ _ hx
        have q1 := g1
        have q2 := g2
        rw [hasP_iff] at q1 q2
        exact h1 k _ hx (hasP_mono (by omega) g1) (hasP_mono (by omega) g2) (ih _ (by omega)) (ih _ (by omega))
      · exact h0 r h
  exact fun r => key (r + 1).toNat r (by omega)
end

/-- The refs on the ways from f down, with f itself. -/
inductive Reach (L : List Nd) (f : Int) : Int → Prop where
  | self : Reach L f f
  | low {k : Nat} {x : Nd} : Reach L f (k : Int) → L[k]? = some x → Reach L f x.2.1
  | high {k : Nat} {x : Nd} : Reach L f (k : Int) → L[k]? = some x → Reach L f x.2.2
theorem Reach.has {L : List Nd} (hR : RightL L) {f r : Int} (hf : hasP L.length f = true) (h : Reach L f r) : hasP L.length r = true := by
  induction h with
  | self => exact hf
  | low _ hx _ => obtain ⟨-, -, ⟨h1, -⟩, -⟩ := hR.1 _ _ hx; exact hasP_mono (Nat.le_of_lt (get_len hx)) h1
  | high _ hx _ => obtain ⟨-, -, -, h1, -⟩ := hR.1 _ _ hx; exact hasP_mono (Nat.le_of_lt (get_len hx)) h1
theorem Reach.trans {L : List Nd} {f g r : Int} (h : Reach L f g) (k : Reach L g r) : Reach L f r := by
  induction k with
  | self => exact h
  | low _ hx ih => exact .low ih hx
  | high _ hx ih => exact .high ih hx
theorem reach_out {L : List Nd} {f r : Int} (hf : ¬ (0 ≤ f ∧ f < (L.length : Int))) (h : Reach L f r) : r = f := by
  induction h with
  | self => rfl
  | low _ hx ih => have := get_len hx; omega
  | high _ hx ih => have := get_len hx; omega
theorem reach_node {L : List Nd} {k : Nat} {x : Nd} {r : Int} (hx : L[k]? = some x) (h : Reach L (k : Int) r) : r = (k : Int) ∨ Reach L x.2.1 r ∨ Reach L x.2.2 r := by
  generalize hf : (k : Int) = f at h
  induction h with
  | self => exact .inl rfl
  | low h0 hy ih =>
    subst hf
    rcases ih with h | h | h
    · have : (_ : Nat) = k := Int.ofNat.inj h
      subst this
      rw [hx] at hy
      cases hy
      exact .inr (.inl .self)
    · exact .inr (.inl (.low h hy))
    · exact .inr (.inr (.low h hy))
  | high h0 hy ih =>
    subst hf
    rcases ih with h | h | h
    · have : (_ : Nat) = k := Int.ofNat.inj h
      subst this
      rw [hx] at hy
      cases hy
      exact .inr (.inr .self)
    · exact .inr (.inl (.high h hy))
    · exact .inr (.inr (.high h hy))
/-- A row with f, all of whose refs are below f, and all of whose nodes' children are in it, is what is below f. -/
theorem reach_row {L : List Nd} {f : Int} {R : List Int} (h0 : f ∈ R) (h1 : ∀ (k : Nat) (x : Nd), (k : Int) ∈ R → L[k]? = some x → x.2.1 ∈ R ∧ x.2.2 ∈ R) : ∀ r, Reach L f r → r ∈ R := by
  intro r h
  induction h with
  | self => exact h0
  | low _ hx ih => exact (h1 _ _ ih hx).1
  | high _ hx ih => exact (h1 _ _ ih hx).2
/-- No more refs than twice the nodes, and one. -/
theorem nodup_len {α : Type} : ∀ {A B : List α}, A.Nodup → (∀ x ∈ A, x ∈ B) → A.length ≤ B.length
  | [], _, _, _ => Nat.zero_le _
  | a :: A, B, hn, h => by
    obtain ⟨s, t, rfl⟩ := List.append_of_mem (h a (List.mem_cons_self ..))
    have hn' := List.nodup_cons.1 hn
    have := nodup_len (A := A) (B := s ++ t) hn'.2 fun x hx => by
      have := h x (List.mem_cons_of_mem _ hx)
      rw [List.mem_append, List.mem_cons] at this
      rw [List.mem_append]
      rcases this with h | rfl | h
      · exact .inl h
      · exact absurd hx hn'.1
      · exact .inr h
    simp only [List.length_append, List.length_cons] at this ⊢
    omega
theorem reach_kids {L : List Nd} {f r : Int} (h : Reach L f r) : r ∈ f :: L.flatMap fun x => [x.2.1, x.2.2] := by
  cases h with
  | self => exact List.mem_cons_self ..
  | low _ hx => exact List.mem_cons_of_mem _ (List.mem_flatMap.2 ⟨_, List.mem_of_getElem? hx, by simp⟩)
  | high _ hx => exact List.mem_cons_of_mem _ (List.mem_flatMap.2 ⟨_, List.mem_of_getElem? hx, by simp⟩)
theorem kids_len (L : List Nd) : (L.flatMap fun x => [x.2.1, x.2.2]).length = 2 * L.length := by
  induction L with
  | nil => rfl
  | cons x L ih => rw [List.flatMap_cons, List.length_append, ih]; simp; omega
theorem reach_few {L : List Nd} {f : Int} {R : List Int} (hn : R.Nodup) (h : ∀ r ∈ R, Reach L f r) : R.length ≤ 2 * L.length + 1 := by
  have := nodup_len hn fun r hr => reach_kids (h r hr)
  simp only [List.length_cons, kids_len] at this
  omega

/-- One way down: the variables' bits, those where it goes by High, and the ref at its end. -/
abbrev Way := (Nat × Nat) × Int
def extW (v : Int) (b : Nat) (w : Way) : Way := ((w.1.1 ||| 1 <<< v.toNat, w.1.2 ||| b <<< v.toNat), w.2)
def waysL (L : List Nd) (r : Int) : List Way := fold L (fun r => [((0, 0), r)]) (fun v lo hi => lo.map (extW v 0) ++ hi.map (extW v 1)) r
theorem ways_out {L : List Nd} {r : Int} (h : ¬ (0 ≤ r ∧ r < (L.length : Int))) : waysL L r = [((0, 0), r)] := fold_out h
theorem ways_node {L : List Nd} (hR : RightL L) {k : Nat} {x : Nd} (h : L[k]? = some x) : waysL L (k : Int) = (waysL L x.2.1).map (extW x.1 0) ++ (waysL L x.2.2).map (extW x.1 1) := fold_node hR h
theorem shift_lt {a b v : Nat} (ha : a < 4096) (hb : b ≤ 1) (hv : v < 12) : a ||| b <<< v < 4096 := by
  have h1 : b <<< v < 2 ^ 12 := by
    rw [Nat.shiftLeft_eq]
    have : 2 ^ v ≤ 2 ^ 11 := Nat.pow_le_pow_right (by omega) (by omega)
    rcases (show b = 0 ∨ b = 1 by omega) with rfl | rfl
    · omega
    · omega
  exact Nat.or_lt_two_pow (n := 12) ha h1
theorem ways_lt {L : List Nd} (hR : RightL L) : ∀ r, ∀ w ∈ waysL L r, w.1.1 < 4096 ∧ w.1.2 < 4096 := by
  refine down hR (fun r hr w hw => ?_) fun k x hx _ _ h2 h3 w hw => ?_
  · rw [ways_out hr, List.mem_singleton] at hw
    subst hw
    exact ⟨by show (0 : Nat) < 4096; omega, by show (0 : Nat) < 4096; omega⟩
  · have hv := (hR.1 _ _ hx).1
    rw [ways_node hR hx, List.mem_append, List.mem_map, List.mem_map] at hw
    rcases hw with ⟨y, hy, rfl⟩ | ⟨y, hy, rfl⟩
    · exact ⟨shift_lt (h2 y hy).1 (Nat.le_refl _) (by omega), shift_lt (h2 y hy).2 (by omega) (by omega)⟩
    · exact ⟨shift_lt (h3 y hy).1 (Nat.le_refl _) (by omega), shift_lt (h3 y hy).2 (by omega) (by omega)⟩
theorem ways_len {L : List Nd} (hR : RightL L) : ∀ r, (waysL L r).length ≤ 2 ^ (12 - varP L r).toNat := by
  refine down hR (fun r hr => ?_) fun k x hx _ _ h2 h3 => ?_
  · rw [ways_out hr]
    exact Nat.one_le_two_pow
  · obtain ⟨x1, x2, x3⟩ := x
    obtain ⟨⟨v0, v1⟩, -, ⟨-, l2⟩, -, l3⟩ := hR.1 _ _ hx
    dsimp only at v0 v1 l2 l3 h2 h3
    rw [ways_node hR hx, varP_at hx, List.length_append, List.length_map, List.length_map]
    dsimp only
    obtain ⟨u, hu⟩ : ∃ u, (12 - x1).toNat = u + 1 := ⟨(12 - x1).toNat - 1, by omega⟩
    have p2 : 2 ^ (12 - varP L x2).toNat ≤ 2 ^ u := Nat.pow_le_pow_right (by omega) (by omega)
    have p3 : 2 ^ (12 - varP L x3).toNat ≤ 2 ^ u := Nat.pow_le_pow_right (by omega) (by omega)
    rw [hu, Nat.pow_succ]
    omega
theorem varP_nonneg {L : List Nd} (hR : RightL L) (r : Int) : 0 ≤ varP L r := by
  unfold varP
  split
  · rename_i h
    have hx : L[r.toNat]? = some L[r.toNat] := List.getElem?_eq_getElem (by omega)
    have := (hR.1 _ _ hx).1
    rw [List.getD_eq_getElem?_getD, hx]
    simp
    omega
  · omega
theorem ways_few {L : List Nd} (hR : RightL L) (r : Int) : (waysL L r).length ≤ 4096 := by
  have h := ways_len hR r
  have h0 := varP_nonneg hR r
  have : 2 ^ (12 - varP L r).toNat ≤ 2 ^ 12 := Nat.pow_le_pow_right (by omega) (by omega)
  omega
end Go.Proofs.YtlddelnbjihhgaaDoor
