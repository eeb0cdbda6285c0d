/- Memos, plainly: keys, places, and what stands in them. Nothing of the program stands here. -/
namespace Go.Proofs.Ytdgjbbcalffbcaa.Mem

abbrev Ky := Int × Int × Int
/-- What stands in a place: nothing, or a key and its value. -/
abbrev Pl := Option (Ky × Int)
def sizeP (n : Int) : Nat := (min (max n 1) 65536).toNat
theorem sizeP_bd (n : Int) : 1 ≤ sizeP n ∧ sizeP n ≤ 65536 := by unfold sizeP; omega
def hashK (k : Ky) : Int := (k.1 * 961 + k.2.1 * 31 + k.2.2) % 18446744073709551616
def slotP (n : Nat) (k : Ky) : Nat := (hashK k % (n : Int)).toNat
theorem slotP_is {n : Nat} (hn : 0 < n) (k : Ky) : ((slotP n k : Nat) : Int) = hashK k % (n : Int) ∧ slotP n k < n := by
  have h1 : 0 ≤ hashK k % (n : Int) := Int.emod_nonneg _ (by omega)
  have h2 : hashK k % (n : Int) < n := Int.emod_lt_of_pos _ (by omega)
  unfold slotP
  omega
def putP (n : Nat) (T : Nat → Pl) (x : Ky × Int) : Nat → Pl := fun s => if s = slotP n x.1 then some x else T s
def putsP (n : Nat) (T : Nat → Pl) (l : List (Ky × Int)) : Nat → Pl := l.foldl (putP n) T
def noneP : Nat → Pl := fun _ => none
/-- What is told of a key. -/
def atP (p : Pl) (k : Ky) : Int × Bool := match p with
  | none => (0, false)
  | some x => if x.1 = k then (x.2, true) else (0, false)
def getP (n : Nat) (T : Nat → Pl) (k : Ky) : Int × Bool := atP (T (slotP n k)) k
/-- How many of the first n places are taken. -/
def lenP (T : Nat → Pl) : Nat → Nat
  | 0 => 0
  | n + 1 => lenP T n + if (T n).isSome = true then 1 else 0
theorem lenP_le (T : Nat → Pl) : ∀ n, lenP T n ≤ n
  | 0 => Nat.le_refl _
  | n + 1 => by have := lenP_le T n; show _ + (if _ then _ else _) ≤ _; split <;> omega
theorem lenP_none : ∀ n, lenP noneP n = 0
  | 0 => rfl
  | n + 1 => by show lenP noneP n + (if _ then _ else _) = _; rw [lenP_none n]; rfl
theorem lenP_far {T T' : Nat → Pl} : ∀ {n : Nat}, (∀ s, s < n → (T' s).isSome = (T s).isSome) → lenP T' n = lenP T n
  | 0, _ => rfl
  | n + 1, h => by
    show lenP T' n + (if _ then _ else _) = lenP T n + (if _ then _ else _)
    rw [lenP_far (n := n) (fun s hs => h s (by omega)), h n (by omega)]
theorem lenP_put_at (T : Nat → Pl) (x : Ky × Int) (s : Nat) : ∀ n, s < n → lenP (fun i => if i = s then some x else T i) n = lenP T n + if (T s).isSome = true then 0 else 1
  | 0, h => absurd h (by omega)
  | n + 1, h => by
    show lenP (fun i => if i = s then some x else T i) n + (if ((if n = s then some x else T n) : Pl).isSome = true then 1 else 0) = (lenP T n + (if (T n).isSome = true then 1 else 0)) + _
    by_cases e : n = s
    · subst e
      rw [lenP_far (T := T) (n := n) (fun i hi => by rw [if_neg (by omega)]), if_pos rfl]
      show _ + 1 = _
      split <;> omega
    · rw [lenP_put_at T x s n (by omega), if_neg e]
      omega
theorem lenP_put {n : Nat} (hn : 0 < n) (T : Nat → Pl) (x : Ky × Int) : lenP (putP n T x) n = lenP T n + if (T (slotP n x.1)).isSome = true then 0 else 1 :=
  lenP_put_at T x _ n (slotP_is hn _).2
theorem putP_at (n : Nat) (T : Nat → Pl) (x : Ky × Int) : putP n T x (slotP n x.1) = some x := if_pos rfl
theorem putP_far (n : Nat) (T : Nat → Pl) (x : Ky × Int) {s : Nat} (h : s ≠ slotP n x.1) : putP n T x s = T s := if_neg h
theorem putsP_snoc (n : Nat) (T : Nat → Pl) (l : List (Ky × Int)) (x : Ky × Int) : putsP n T (l ++ [x]) = putP n (putsP n T l) x := by
  unfold putsP; rw [List.foldl_append]; rfl
theorem putsP_take (n : Nat) (T : Nat → Pl) {l : List (Ky × Int)} {k : Nat} {x : Ky × Int} (h : l[k]? = some x) : putsP n T (l.take (k + 1)) = putP n (putsP n T (l.take k)) x := by
  have hk : k < l.length := (List.getElem?_eq_some_iff.1 h).1
  have e : l[k] = x := (List.getElem?_eq_some_iff.1 h).2
  rw [List.take_succ_eq_append_getElem hk, e, putsP_snoc]
theorem getP_put (n : Nat) (T : Nat → Pl) (x : Ky × Int) : getP n (putP n T x) x.1 = (x.2, true) := by
  unfold getP; rw [putP_at]; show (if x.1 = x.1 then _ else _) = _; rw [if_pos rfl]
theorem getP_far (n : Nat) (T : Nat → Pl) (x : Ky × Int) {k : Ky} (h : slotP n k ≠ slotP n x.1) : getP n (putP n T x) k = getP n T k := by
  unfold getP; rw [putP_far n T x h]
/-- What stands in a place is what was put there last. -/
theorem puts_last {n : Nat} {l : List (Ky × Int)} {i s : Nat} {x : Ky × Int} (hi : l[i]? = some x) (hx : slotP n x.1 = s) (hn : ∀ (j : Nat) y, i < j → l[j]? = some y → slotP n y.1 ≠ s) (T : Nat → Pl) : putsP n T l s = some x := by
  suffices h : ∀ m, i < m → m ≤ l.length → putsP n T (l.take m) s = some x by
    have hk : i < l.length := (List.getElem?_eq_some_iff.1 hi).1
    have := h l.length hk (Nat.le_refl _)
    rwa [List.take_length] at this
  intro m
  induction m with
  | zero => intro h; omega
  | succ m ih =>
    intro h1 h2
    have hm : l[m]? = some l[m] := List.getElem?_eq_getElem (by omega)
    rw [putsP_take n T hm]
    by_cases e : m = i
    · subst e
      rw [hi] at hm
      injection hm with hm
      rw [← hm, ← hx, putP_at]
    · rw [putP_far n _ _ (fun h => hn m _ (by omega) hm h.symm)]
      exact ih (by omega) (by omega)
theorem puts_none {n : Nat} {l : List (Ky × Int)} {s : Nat} (hn : ∀ (j : Nat) y, l[j]? = some y → slotP n y.1 ≠ s) (T : Nat → Pl) : putsP n T l s = T s := by
  suffices h : ∀ m, m ≤ l.length → putsP n T (l.take m) s = T s by
    have := h l.length (Nat.le_refl _)
    rwa [List.take_length] at this
  intro m
  induction m with
  | zero => intro _; rfl
  | succ m ih =>
    intro h2
    have hm : l[m]? = some l[m] := List.getElem?_eq_getElem (by omega)
    rw [putsP_take n T hm, putP_far n _ _ (fun h => hn m _ hm h.symm)]
    exact ih (by omega)
/-- What stands, stands for some put, behind which there is none of its place. -/
theorem puts_some {n : Nat} {l : List (Ky × Int)} {s : Nat} {x : Ky × Int} (h : putsP n noneP l s = some x) : ∃ i : Nat, l[i]? = some x ∧ slotP n x.1 = s ∧ ∀ (j : Nat) y, i < j → l[j]? = some y → slotP n y.1 ≠ s := by
  suffices H : ∀ m, m ≤ l.length → ∀ x, putsP n noneP (l.take m) s = some x → ∃ i : Nat, i < m ∧ l[i]? = some x ∧ slotP n x.1 = s ∧ ∀ (j : Nat) y, i < j → j < m → l[j]? = some y → slotP n y.1 ≠ s by
    obtain ⟨i, -, h1, h2, h3⟩ := H l.length (Nat.le_refl _) x (by rw [List.take_length]; exact h)
    exact ⟨i, h1, h2, fun j y hj hy => h3 j y hj (List.getElem?_eq_some_iff.1 hy).1 hy⟩
  intro m
  induction m with
  | zero => intro _ x h; cases h
  | succ m ih =>
    intro hm x h
    have hlm : l[m]? = some l[m] := List.getElem?_eq_getElem (by omega)
    rw [putsP_take n _ hlm] at h
    by_cases e : s = slotP n (l[m]).1
    · rw [e, putP_at] at h
      injection h with h
      refine ⟨m, by omega, by rw [hlm, h], by rw [e, h], fun j y hj hj2 => by omega⟩
    · rw [putP_far n _ _ e] at h
      obtain ⟨i, hi, h1, h2, h3⟩ := ih (by omega) x h
      refine ⟨i, by omega, h1, h2, fun j y hj hj2 hy => ?_⟩
      by_cases e2 : j = m
      · subst e2
        rw [hlm] at hy
        injection hy with hy
        rw [← hy]; exact fun h => e h.symm
      · exact h3 j y hj (by omega) hy
end Go.Proofs.Ytdgjbbcalffbcaa.Mem
