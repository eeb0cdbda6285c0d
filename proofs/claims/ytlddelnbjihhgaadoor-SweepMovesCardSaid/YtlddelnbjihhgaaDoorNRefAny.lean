/- The contract of the document's Mk, whatever is asked; and where bits end. -/
import Derived.Test.YtlddelnbjihhgaaDoorNRefAdd
namespace Go.Proofs.YtlddelnbjihhgaaDoor
open Go.RowKit

theorem rmk_any {W : World} {lim c : Nat} {A : Option Addr} {L L' : List Nd} {v lo hi r cc : Int} (hm : mkP lim L v lo hi = (L', r, cc)) (h : RefA W A c L) (hR : RightL L) (hfew : L.length + 1 ≤ 4000) :
    Calls Tryd.prog 64 #[.agg #[.int .i64 lim, .slice A L.length c], .int .i64 v, .int .i64 lo, .int .i64 hi] W (RetRMk lim L' r cc W) := by
  by_cases hv : v < 0 ∨ 12 ≤ v
  · have e : mkP lim L v lo hi = (L, 0, 52) := by unfold mkP; rw [if_pos hv]
    rw [e] at hm
    obtain ⟨rfl, rfl, rfl⟩ : L = L' ∧ (0 : Int) = r ∧ (52 : Int) = cc := by simpa using hm
    exact rmk_var h hv
  · have hv2 : 0 ≤ v ∧ v < 12 := by omega
    by_cases hc : ¬ (hasP L.length lo = true ∧ v < varP L lo) ∨ ¬ (hasP L.length hi = true ∧ v < varP L hi)
    · have e : mkP lim L v lo hi = (L, 0, 51) := by unfold mkP; rw [if_neg hv, if_pos hc]
      rw [e] at hm
      obtain ⟨rfl, rfl, rfl⟩ : L = L' ∧ (0 : Int) = r ∧ (51 : Int) = cc := by simpa using hm
      cases h1 : hasP L.length lo with
      | false => exact rmk_has1 h hv2 h1
      | true =>
        cases h2 : hasP L.length hi with
        | false => exact rmk_has2 h hv2 h1 h2
        | true =>
          by_cases h3 : varP L lo ≤ v
          · exact rmk_lo h hv2 h1 h2 rfl h3
          · refine rmk_hi h hv2 h1 h2 rfl h3 rfl ?_
            rcases hc with hc | hc
            · exact absurd ⟨h1, by omega⟩ hc
            · exact Classical.byContradiction fun h4 => hc ⟨h2, by omega⟩
    · have h1 : hasP L.length lo = true ∧ v < varP L lo := Classical.byContradiction fun h => hc (.inl h)
      have h2 : hasP L.length hi = true ∧ v < varP L hi := Classical.byContradiction fun h => hc (.inr h)
      have h3 : ¬ varP L lo ≤ v := by omega
      have h4 : ¬ varP L hi ≤ v := by omega
      by_cases he : lo = hi
      · have e : mkP lim L v lo hi = (L, lo, 0) := by unfold mkP; rw [if_neg hv, if_neg hc, if_pos he]
        rw [e] at hm
        obtain ⟨rfl, rfl, rfl⟩ : L = L' ∧ lo = r ∧ (0 : Int) = cc := by simpa using hm
        exact rmk_like h hv2 h1.1 rfl h3 he
      · cases hw : whereP L (v, lo, hi) with
        | some k =>
          have e : mkP lim L v lo hi = (L, (k : Int), 0) := by unfold mkP; rw [if_neg hv, if_neg hc, if_neg he, hw]
          rw [e] at hm
          obtain ⟨rfl, rfl, rfl⟩ : L = L' ∧ (k : Int) = r ∧ (0 : Int) = cc := by simpa using hm
          have hk : L[k]? = some (v, lo, hi) := by
            unfold whereP at hw
            obtain ⟨hk, hp, -⟩ := List.findIdx?_eq_some_iff_getElem.1 hw
            rw [List.getElem?_eq_getElem hk]
            exact congrArg some (by simpa using hp)
          exact rmk_old h hv2 h1.1 h2.1 rfl h3 rfl h4 he hk hR.2
        | none =>
          have hk : ∀ k : Nat, L[k]? ≠ some (v, lo, hi) := fun k e => by rw [whereP_some hR.2 e] at hw; cases hw
          by_cases hl : lim ≤ L.length
          · have e : mkP lim L v lo hi = (L, 0, 50) := by unfold mkP; rw [if_neg hv, if_neg hc, if_neg he, hw]; exact if_pos hl
            rw [e] at hm
            obtain ⟨rfl, rfl, rfl⟩ : L = L' ∧ (0 : Int) = r ∧ (50 : Int) = cc := by simpa using hm
            exact rmk_full h hv2 h1.1 h2.1 rfl h3 rfl h4 he hk hl
          · have e : mkP lim L v lo hi = (L ++ [(v, lo, hi)], (L.length : Int), 0) := by unfold mkP; rw [if_neg hv, if_neg hc, if_neg he, hw]; exact if_neg hl
            rw [e] at hm
            obtain ⟨rfl, rfl, rfl⟩ : L ++ [(v, lo, hi)] = L' ∧ (L.length : Int) = r ∧ (0 : Int) = cc := by simpa using hm
            exact rmk_new h hv2 h1.1 h2.1 rfl h3 rfl h4 he hk hl hfew
/-- Bits end at no node. -/
theorem walkP_end {L : List Nd} (hR : RightL L) (bits : Nat) : ∀ (f : Nat) (r : Int), (r + 1).toNat ≤ f → ¬ (0 ≤ walkP L bits f r ∧ walkP L bits f r < (L.length : Int)) := by
  intro f
  induction f with
  | zero => intro r hr; show ¬ (0 ≤ r ∧ _); omega
  | succ f ih =>
    intro r hr
    by_cases h : 0 ≤ r ∧ r < (L.length : Int)
    · have hk : r.toNat < L.length := by omega
      have hx : L[r.toNat]? = some L[r.toNat] := List.getElem?_eq_getElem hk
      rw [walkP_step hx (by omega)]
      obtain ⟨-, -, ⟨h1, -⟩, h2, -⟩ := hR.1 _ _ hx
      rw [hasP_iff] at h1 h2
      split
      · exact ih _ (by omega)
      · exact ih _ (by omega)
    · rw [walkP_out h]; exact h
theorem endP_end {L : List Nd} (hR : RightL L) (bits : Nat) (r : Int) : ¬ (0 ≤ endP L bits r ∧ endP L bits r < (L.length : Int)) := walkP_end hR bits _ r (Nat.le_refl _)
end Go.Proofs.YtlddelnbjihhgaaDoor
