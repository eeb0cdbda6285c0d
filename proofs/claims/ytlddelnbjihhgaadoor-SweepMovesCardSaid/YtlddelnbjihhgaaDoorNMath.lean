/- Nodes of diagrams, plainly: rows of nodes, tables of places, and how a place is found. Nothing of the program stands here. -/
namespace Go.Proofs.YtlddelnbjihhgaaDoor

/-- A node: its variable, and two children. -/
abbrev Nd := Int × Int × Int

def hasP (n : Nat) (r : Int) : Bool := decide (-1099511627777 ≤ r) && decide (r < (n : Int))
def varP (L : List Nd) (r : Int) : Int := if 0 ≤ r ∧ r < (L.length : Int) then (L.getD r.toNat (0, 0, 0)).1 else 12

/-- How many places of the first p are taken. -/
def taken (T : Nat → Nat) : Nat → Nat
  | 0 => 0
  | p + 1 => taken T p + if T p = 0 then 0 else 1
theorem taken_free {T : Nat → Nat} : ∀ {P : Nat}, taken T P < P → ∃ s, s < P ∧ T s = 0
  | 0, h => absurd h (by omega)
  | p + 1, h => by
    by_cases h0 : T p = 0
    · exact ⟨p, by omega, h0⟩
    · have e : taken T (p + 1) = taken T p + 1 := by show taken T p + (if _ then _ else _) = _; rw [if_neg h0]
      obtain ⟨s, hs, h⟩ := taken_free (T := T) (P := p) (by omega)
      exact ⟨s, by omega, h⟩
def putT (T : Nat → Nat) (s v : Nat) : Nat → Nat := fun t => if t = s then v else T t
theorem putT_same (T : Nat → Nat) (s v : Nat) : putT T s v s = v := if_pos rfl
theorem putT_other (T : Nat → Nat) {s v t : Nat} (h : t ≠ s) : putT T s v t = T t := if_neg h
theorem taken_put_le (T : Nat → Nat) (s v : Nat) : ∀ P, taken (putT T s v) P ≤ taken T P + (if s < P then 1 else 0)
  | 0 => by simp [taken]
  | p + 1 => by
    have ih := taken_put_le T s v p
    show taken (putT T s v) p + (if putT T s v p = 0 then 0 else 1) ≤ taken T p + (if T p = 0 then 0 else 1) + _
    by_cases hp : p = s
    · subst hp
      rw [if_neg (by omega : ¬ p < p)] at ih
      rw [if_pos (by omega : p < p + 1)]
      split <;> split <;> omega
    · rw [putT_other T hp]
      by_cases h : s < p
      · rw [if_pos h] at ih; rw [if_pos (by omega : s < p + 1)]; omega
      · rw [if_neg h] at ih; rw [if_neg (by omega : ¬ s < p + 1)]; omega
theorem taken_zero (P : Nat) : taken (fun _ => 0) P = 0 := by
  induction P with
  | zero => rfl
  | succ p ih => show taken _ p + 0 = 0; rw [ih]

/-- The place is that of the d-th step from s on; none of the steps before it is free, or has x. -/
def Steps (P : Nat) (T : Nat → Nat) (L : List Nd) (x : Nd) (s d : Nat) : Prop := ∀ k, k < d → T ((s + k) % P) ≠ 0 ∧ L[T ((s + k) % P) - 1]? ≠ some x
def Found (P : Nat) (T : Nat → Nat) (L : List Nd) (x : Nd) (s place ref : Nat) (held : Bool) : Prop :=
  ∃ d, d < P ∧ place = (s + d) % P ∧ Steps P T L x s d ∧ ((held = false ∧ ref = 0 ∧ T place = 0) ∨ (held = true ∧ T place = ref + 1 ∧ L[ref]? = some x))
/-- The first n nodes of L stand in T, and nothing else. -/
def Inv (P : Nat) (T : Nat → Nat) (L : List Nd) (st : Nd → Nat) (n : Nat) : Prop :=
  (∀ s, s < P → T s ≤ n) ∧ taken T P ≤ n ∧ ∀ k x, k < n → L[k]? = some x → ∃ d, d < P ∧ T ((st x + d) % P) = k + 1 ∧ ∀ i, i < d → T ((st x + i) % P) ≠ 0
theorem step_to {P s t : Nat} (hs : s < P) (ht : t < P) : ∃ d, d < P ∧ (s + d) % P = t := by
  by_cases h : s ≤ t
  · exact ⟨t - s, by omega, by rw [show s + (t - s) = t by omega, Nat.mod_eq_of_lt ht]⟩
  · refine ⟨t + P - s, by omega, ?_⟩
    rw [show s + (t + P - s) = t + P by omega, Nat.add_mod_right, Nat.mod_eq_of_lt ht]
theorem free_step {P : Nat} {T : Nat → Nat} {s : Nat} (hs : s < P) (h : taken T P < P) : ∃ d, d < P ∧ T ((s + d) % P) = 0 := by
  obtain ⟨t, ht, h0⟩ := taken_free h
  obtain ⟨d, hd, e⟩ := step_to hs ht
  exact ⟨d, hd, by rw [e]; exact h0⟩
theorem next_step (P s d : Nat) : ((s + d) % P + 1) % P = (s + (d + 1)) % P := by
  rw [Nat.mod_add_mod, Nat.add_assoc]
theorem found_new {P n : Nat} {T : Nat → Nat} {L : List Nd} {st : Nd → Nat} {x : Nd} {place ref : Nat} (hI : Inv P T L st n) (hF : Found P T L x (st x) place ref false) : ∀ k, k < n → L[k]? ≠ some x := by
  intro k hk e
  obtain ⟨d, hd, hp, hS, h⟩ := hF
  obtain ⟨q, hq, h1, h2⟩ := hI.2.2 k x hk e
  have hz : T ((st x + d) % P) = 0 := by
    rcases h with ⟨-, -, h⟩ | ⟨h, -⟩
    · rw [← hp]; exact h
    · cases h
  rcases Nat.lt_trichotomy d q with hlt | rfl | hgt
  · exact h2 d hlt hz
  · omega
  · have := (hS q hgt).2
    rw [h1] at this
    exact this e
theorem found_put {P n : Nat} {T : Nat → Nat} {L : List Nd} {st : Nd → Nat} {x : Nd} {place ref : Nat} (hI : Inv P T L st n) (hF : Found P T L x (st x) place ref false) (hx : L[n]? = some x) : Inv P (putT T place (n + 1)) L st (n + 1) := by
  obtain ⟨d, hd, hp, hS, h⟩ := hF
  have hz : T place = 0 := by
    rcases h with ⟨-, -, h⟩ | ⟨h, -⟩
    · exact h
    · cases h
  refine ⟨fun s hs => ?_, ?_, ?_⟩
  · by_cases e : s = place
    · rw [e, putT_same]; exact Nat.le_refl _
    · rw [putT_other T e]; have := hI.1 s hs; omega
  · have := taken_put_le T place (n + 1) P
    have h2 := hI.2.1
    split at this <;> omega
  · intro k y hk hy
    by_cases e : k = n
    · subst e
      rw [hx] at hy
      injection hy with hy
      subst hy
      refine ⟨d, hd, by rw [← hp, putT_same], fun i hi => ?_⟩
      by_cases e : (st x + i) % P = place
      · rw [e, putT_same]; omega
      · rw [putT_other T e]; exact (hS i hi).1
    · obtain ⟨q, hq, h1, h2⟩ := hI.2.2 k y (by omega) hy
      refine ⟨q, hq, ?_, fun i hi => ?_⟩
      · rw [putT_other T (fun e => by rw [e, hz] at h1; omega)]; exact h1
      · by_cases e : (st y + i) % P = place
        · rw [e, putT_same]; omega
        · rw [putT_other T e]; exact h2 i hi
theorem inv_more {P n : Nat} {T : Nat → Nat} {L M : List Nd} {st : Nd → Nat} (hI : Inv P T L st n) (h : ∀ k, k < n → M[k]? = L[k]?) : Inv P T M st n :=
  ⟨hI.1, hI.2.1, fun k x hk e => hI.2.2 k x hk (by rw [← h k hk]; exact e)⟩
theorem inv_none (P : Nat) (L : List Nd) (st : Nd → Nat) : Inv P (fun _ => 0) L st 0 :=
  ⟨fun _ _ => Nat.le_refl _, by rw [taken_zero]; exact Nat.le_refl _, fun k _ hk => absurd hk (by omega)⟩
theorem inv_free {P n : Nat} {T : Nat → Nat} {L : List Nd} {st : Nd → Nat} (hI : Inv P T L st n) (h : n < P) : taken T P < P := by have := hI.2.1; omega

/-- Where a node stands in a row, if it does. -/
def whereP (L : List Nd) (x : Nd) : Option Nat := L.findIdx? fun y => decide (y = x)
def Uniq (L : List Nd) : Prop := ∀ (i k : Nat) (x : Nd), L[i]? = some x → L[k]? = some x → i = k
theorem whereP_none {L : List Nd} {x : Nd} (h : ∀ k, k < L.length → L[k]? ≠ some x) : whereP L x = none := by
  unfold whereP
  rw [List.findIdx?_eq_none_iff]
  intro y hy
  obtain ⟨k, hk, e⟩ := List.getElem_of_mem hy
  rw [decide_eq_false]
  intro e2
  exact h k hk (by rw [List.getElem?_eq_getElem hk, e, e2])
theorem whereP_some {L : List Nd} {x : Nd} {k : Nat} (hu : Uniq L) (h : L[k]? = some x) : whereP L x = some k := by
  unfold whereP
  cases e : L.findIdx? (fun y => decide (y = x)) with
  | none =>
    rw [List.findIdx?_eq_none_iff] at e
    have := e x (List.mem_of_getElem? h)
    simp at this
  | some j =>
    obtain ⟨hj, hp, -⟩ := List.findIdx?_eq_some_iff_getElem.1 e
    have hp : L[j] = x := by simpa using hp
    rw [hu j k x (by rw [List.getElem?_eq_getElem hj, hp]) h]
/-- Mk: the nodes that are held then, the number, and the error's. -/
def mkP (lim : Nat) (L : List Nd) (v lo hi : Int) : List Nd × Int × Int :=
  if v < 0 ∨ 12 ≤ v then (L, 0, 52)
  else if ¬ (hasP L.length lo = true ∧ v < varP L lo) ∨ ¬ (hasP L.length hi = true ∧ v < varP L hi) then (L, 0, 51)
  else if lo = hi then (L, lo, 0)
  else match whereP L (v, lo, hi) with
    | some k => (L, k, 0)
    | none => if lim ≤ L.length then (L, 0, 50) else (L ++ [(v, lo, hi)], L.length, 0)

/-- Each node has unlike children, of greater variables, that came ahead of it; no two are alike. -/
def Right1 (L : List Nd) (k : Nat) (x : Nd) : Prop := (0 ≤ x.1 ∧ x.1 < 12) ∧ x.2.1 ≠ x.2.2 ∧ (hasP k x.2.1 = true ∧ x.1 < varP L x.2.1) ∧ (hasP k x.2.2 = true ∧ x.1 < varP L x.2.2)
def RightL (L : List Nd) : Prop := (∀ k x, L[k]? = some x → Right1 L k x) ∧ Uniq L
theorem hasP_iff (n : Nat) (r : Int) : hasP n r = true ↔ -1099511627777 ≤ r ∧ r < (n : Int) := by unfold hasP; simp
theorem varP_more {L : List Nd} (y : Nd) {r : Int} (h : hasP L.length r = true) : varP (L ++ [y]) r = varP L r := by
  rw [hasP_iff] at h
  unfold varP
  simp only [List.length_append, List.length_singleton]
  by_cases h0 : 0 ≤ r
  · rw [if_pos ⟨h0, by omega⟩, if_pos ⟨h0, h.2⟩, List.getD_eq_getElem?_getD, List.getD_eq_getElem?_getD, List.getElem?_append_left (by omega)]
  · rw [if_neg (fun g => h0 g.1), if_neg (fun g => h0 g.1)]
theorem hasP_mono {n m : Nat} (h : n ≤ m) {r : Int} (g : hasP n r = true) : hasP m r = true := by
  rw [hasP_iff] at g ⊢; omega
theorem right_none : RightL [] := ⟨fun k x h => by simp at h, fun i k x h => by simp at h⟩
theorem get_len {L : List Nd} {k : Nat} {x : Nd} (h : L[k]? = some x) : k < L.length := (List.getElem?_eq_some_iff.1 h).1
/-- Mk leaves all as it must be. -/
theorem mkP_right {lim : Nat} {L : List Nd} (hR : RightL L) (v lo hi : Int) : RightL (mkP lim L v lo hi).1 := by
  unfold mkP
  split
  · exact hR
  rename_i hv
  split
  · exact hR
  rename_i hc
  split
  · exact hR
  rename_i hne
  split
  · exact hR
  rename_i hw
  split
  · exact hR
  rename_i hlim
  have hc1 : (hasP L.length lo = true ∧ v < varP L lo) ∧ (hasP L.length hi = true ∧ v < varP L hi) := by
    constructor
    · exact Classical.byContradiction fun h => hc (.inl h)
    · exact Classical.byContradiction fun h => hc (.inr h)
  have hnew : ∀ k, k < L.length → L[k]? ≠ some (v, lo, hi) := fun k hk e => by
    rw [whereP_some hR.2 e] at hw; cases hw
  refine ⟨fun k x h => ?_, fun i k x h g => ?_⟩
  · by_cases hk : k < L.length
    · rw [List.getElem?_append_left hk] at h
      obtain ⟨h1, h2, ⟨h3, h4⟩, h5, h6⟩ := hR.1 k x h
      exact ⟨h1, h2, ⟨h3, by rw [varP_more _ (hasP_mono (Nat.le_of_lt hk) h3)]; exact h4⟩, h5, by rw [varP_more _ (hasP_mono (Nat.le_of_lt hk) h5)]; exact h6⟩
    · have hkl := get_len h
      simp only [List.length_append, List.length_singleton] at hkl
      obtain rfl : k = L.length := by omega
      rw [List.getElem?_append_right (Nat.le_refl _)] at h
      simp at h
      subst h
      refine ⟨by show 0 ≤ v ∧ v < 12; omega, hne, ⟨hc1.1.1, ?_⟩, hc1.2.1, ?_⟩
      · show v < varP _ lo
        rw [varP_more _ hc1.1.1]; exact hc1.1.2
      · show v < varP _ hi
        rw [varP_more _ hc1.2.1]; exact hc1.2.2
  · have hil := get_len h
    have hkl := get_len g
    simp only [List.length_append, List.length_singleton] at hil hkl
    by_cases hi' : i < L.length <;> by_cases hk : k < L.length
    · rw [List.getElem?_append_left hi'] at h
      rw [List.getElem?_append_left hk] at g
      exact hR.2 i k x h g
    · obtain rfl : k = L.length := by omega
      rw [List.getElem?_append_right (Nat.le_refl _)] at g
      simp at g
      subst g
      rw [List.getElem?_append_left hi'] at h
      exact absurd h (hnew i hi')
    · obtain rfl : i = L.length := by omega
      rw [List.getElem?_append_right (Nat.le_refl _)] at h
      simp at h
      subst h
      rw [List.getElem?_append_left hk] at g
      exact absurd g (hnew k hk)
    · omega
/-- What Mk tells: the nodes that there were stay; the number is had. -/
theorem mkP_more (lim : Nat) (L : List Nd) (v lo hi : Int) : ∃ M, (mkP lim L v lo hi).1 = L ++ M := by
  unfold mkP
  split
  · exact ⟨[], by simp⟩
  split
  · exact ⟨[], by simp⟩
  split
  · exact ⟨[], by simp⟩
  split
  · exact ⟨[], by simp⟩
  split
  · exact ⟨[], by simp⟩
  · exact ⟨_, rfl⟩
theorem mkP_len (lim : Nat) (L : List Nd) (v lo hi : Int) : (mkP lim L v lo hi).1.length ≤ L.length + 1 := by
  unfold mkP
  split
  · simp
  split
  · simp
  split
  · simp
  split
  · simp
  split
  · simp
  · simp
theorem mkP_lim {lim : Nat} {L : List Nd} (h : L.length ≤ lim) (v lo hi : Int) : (mkP lim L v lo hi).1.length ≤ lim := by
  unfold mkP
  split
  · exact h
  split
  · exact h
  split
  · exact h
  split
  · exact h
  split
  · exact h
  · simp; omega

/-- Where the bits lead. -/
def walkP (L : List Nd) (bits : Nat) : Nat → Int → Int
  | 0, r => r
  | f + 1, r => if 0 ≤ r ∧ r < (L.length : Int) then walkP L bits f (if bits.testBit (L.getD r.toNat (0, 0, 0)).1.toNat = true then (L.getD r.toNat (0, 0, 0)).2.2 else (L.getD r.toNat (0, 0, 0)).2.1) else r
end Go.Proofs.YtlddelnbjihhgaaDoor
