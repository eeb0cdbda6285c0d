/- A script of nodes that are made, plainly: the row that it comes to, and the refs that are told. Nothing of the program stands here. -/
import Derived.Test.YtlddelnbjihhgaaDoorNSame
namespace Go.Proofs.YtlddelnbjihhgaaDoor

/-- The nodes that are held behind the first i of a script; the refs that were told. -/
def scr (lim : Nat) (L : List Nd) (f : Nat → Nd) : Nat → List Nd
  | 0 => L
  | i + 1 => (mkP lim (scr lim L f i) (f i).1 (f i).2.1 (f i).2.2).1
def refsP (lim : Nat) (L : List Nd) (f : Nat → Nd) : Nat → List Int
  | 0 => []
  | i + 1 => refsP lim L f i ++ if (mkP lim (scr lim L f i) (f i).1 (f i).2.1 (f i).2.2).2.2 = 0 then [(mkP lim (scr lim L f i) (f i).1 (f i).2.1 (f i).2.2).2.1] else []
theorem scr_len (lim : Nat) (L : List Nd) (f : Nat → Nd) : ∀ i, (scr lim L f i).length ≤ L.length + i
  | 0 => Nat.le_refl _
  | i + 1 => by have := scr_len lim L f i; have := mkP_len lim (scr lim L f i) (f i).1 (f i).2.1 (f i).2.2; show (mkP _ _ _ _ _).1.length ≤ _; omega
theorem scr_lim {lim : Nat} {L : List Nd} (h : L.length ≤ lim) (f : Nat → Nd) : ∀ i, (scr lim L f i).length ≤ lim
  | 0 => h
  | i + 1 => mkP_lim (scr_lim h f i) _ _ _
theorem scr_right {lim : Nat} {L : List Nd} (h : RightL L) (f : Nat → Nd) : ∀ i, RightL (scr lim L f i)
  | 0 => h
  | i + 1 => mkP_right (scr_right h f i) _ _ _
theorem scr_more (lim : Nat) (L : List Nd) (f : Nat → Nd) : ∀ i, ∃ M, scr lim L f i = L ++ M
  | 0 => ⟨[], by simp [scr]⟩
  | i + 1 => by
    obtain ⟨M, hM⟩ := scr_more lim L f i
    obtain ⟨M', hM'⟩ := mkP_more lim (scr lim L f i) (f i).1 (f i).2.1 (f i).2.2
    exact ⟨M ++ M', by show (mkP _ _ _ _ _).1 = _; rw [hM', hM, List.append_assoc]⟩
theorem scr_at {lim : Nat} {L : List Nd} {k : Nat} {x : Nd} (h : L[k]? = some x) (f : Nat → Nd) (i : Nat) : (scr lim L f i)[k]? = some x := by
  obtain ⟨M, hM⟩ := scr_more lim L f i
  rw [hM, List.getElem?_append_left (get_len h)]; exact h
theorem refs_len (lim : Nat) (L : List Nd) (f : Nat → Nd) : ∀ i, (refsP lim L f i).length ≤ i
  | 0 => Nat.le_refl _
  | i + 1 => by
    have := refs_len lim L f i
    show (refsP lim L f i ++ _).length ≤ _
    rw [List.length_append]
    split <;> simp <;> omega
/-- A ref that is told is had. -/
theorem mkP_ref {lim : Nat} {L : List Nd} {v lo hi : Int} (h0 : (mkP lim L v lo hi).2.2 = 0) : hasP (mkP lim L v lo hi).1.length (mkP lim L v lo hi).2.1 = true := by
  revert h0
  unfold mkP
  split
  · intro h; exact absurd h (show ¬ (52 : Int) = 0 by decide)
  rename_i hv
  split
  · intro h; exact absurd h (show ¬ (51 : Int) = 0 by decide)
  rename_i hc
  have hc1 : hasP L.length lo = true ∧ v < varP L lo := Classical.byContradiction fun h => hc (.inl h)
  split
  · intro _; exact hc1.1
  rename_i hne
  cases hw : whereP L (v, lo, hi) with
  | some k =>
    intro _
    unfold whereP at hw
    obtain ⟨hk, -, -⟩ := List.findIdx?_eq_some_iff_getElem.1 hw
    show hasP L.length k = true
    rw [hasP_iff]; omega
  | none =>
    dsimp only
    split
    · intro h; exact absurd h (show ¬ (50 : Int) = 0 by decide)
    · intro _
      show hasP (L ++ [_]).length L.length = true
      rw [hasP_iff]; simp; omega
theorem refs_has {lim : Nat} {L : List Nd} (f : Nat → Nd) : ∀ i, ∀ r ∈ refsP lim L f i, hasP (scr lim L f i).length r = true
  | 0, r, h => by cases h
  | i + 1, r, h => by
    have hlen : (scr lim L f i).length ≤ (scr lim L f (i + 1)).length := by
      obtain ⟨M, hM⟩ := mkP_more lim (scr lim L f i) (f i).1 (f i).2.1 (f i).2.2
      show _ ≤ (mkP _ _ _ _ _).1.length
      rw [hM]; simp
    rcases List.mem_append.1 (show r ∈ refsP lim L f i ++ _ from h) with h | h
    · exact hasP_mono hlen (refs_has f i r h)
    · split at h
      · rename_i h0
        simp at h
        subst h
        exact mkP_ref h0
      · cases h
end Go.Proofs.YtlddelnbjihhgaaDoor
