/- What the laws of the sweep layer ask of Compact. -/
import Derived.Test.YtlddelnbjihhgaaDoorSLaw
namespace Go.Proofs.YtlddelnbjihhgaaDoor
open Go.RowKit

/-- Behind a Compact that went well: the law's arena and the document's row, the new arena, and the roots' refs. -/
structure Cd (w : World) (p : Nat) (A : Option Addr) (c : Nat) (L : List Nd) (q : Nat) (M : List Nd) (rg m : Nat) (R : List Int) (lim : Nat) (W : World) : Prop where
  sw : Sw w p A c L W
  dst : ∃ own : Nat → Prop, Arena W own q lim M
  row : Blk W rg 3 (intsR m R)
section
variable {w W W1 : World} {p c q rg m lim : Nat} {A : Option Addr} {L M : List Nd} {R : List Int} {f : Nat → Int}
theorem Cd.below (h : Cd w p A c L q M rg m R lim W) (hb : Below W.heap.size W W1) : Cd w p A c L q M rg m R lim W1 := by
  obtain ⟨own, hd⟩ := h.dst
  exact ⟨h.sw.below hb, ⟨own, hd.below hb⟩, h.row.below hb h.row.lt⟩
/-- How Compact ends: well, with a root that there is not, or for lack of room. -/
def RetLaw (w : World) (p : Nat) (A : Option Addr) (c : Nat) (L : List Nd) (lim m : Nat) (f : Nat → Int) (W : World) (e : Ending) (w' : World) : Prop :=
  (∃ q rg M R, e = .returned (.tuple #[.pointer (some ⟨q, 0, none⟩), .slice (some ⟨rg, 0, none⟩) m m, .nilIface]) ∧ Cd w p A c L q M rg m R lim w' ∧ cmpP lim L f m = (M, R, 0) ∧ (∀ j, j < m → hasP L.length (f j) = true) ∧ Below W.heap.size W w') ∨
  (e = .returned (.tuple #[.pointer none, .slice none 0 0, .iface 53 (.int .i64 1)]) ∧ Sw w p A c L w' ∧ (∃ j, j < m ∧ hasP L.length (f j) = false) ∧ Below W.heap.size W w') ∨
  (∃ b v cc, e = .returned (.tuple #[.pointer none, .slice none 0 0, .iface 165 (.pointer (some ⟨b, 0, none⟩))]) ∧ Sw w p A c L w' ∧ cc ≠ 0 ∧ cmpP lim L f m = ([], [], cc) ∧ (∀ j, j < m → hasP L.length (f j) = true) ∧ Blk w' b 167 #[.string ⟨#[109, 107]⟩, .int .i64 v, .iface 53 (.int .i64 cc)] ∧ Below W.heap.size W w')
theorem cmp_zero {n : Nat} : ∀ {M : List Nd} {R : List Int} {cc : Int}, cmpP lim L f n = (M, R, cc) → cc ≠ 0 → M = [] ∧ R = [] := by
  induction n with
  | zero =>
    intro M R cc h hc
    have h : ([], [], (0 : Int)) = (M, R, cc) := h
    simp only [Prod.mk.injEq] at h
    exact absurd h.2.2.symm hc
  | succ n ih =>
    intro M R cc h hc
    obtain ⟨⟨M1, R1, c1⟩, h1⟩ : ∃ t, cmpP lim L f n = t := ⟨_, rfl⟩
    by_cases h0 : c1 = 0
    · subst h0
      obtain ⟨⟨N, y, d⟩, hd⟩ : ∃ t, mvP lim L (f n) M1 = t := ⟨_, rfl⟩
      by_cases h2 : d = 0
      · subst h2
        rw [cmp_ok h1 hd] at h
        simp only [Prod.mk.injEq] at h
        exact absurd h.2.2.symm hc
      · rw [cmp_bad1 h1 hd h2] at h
        simp only [Prod.mk.injEq] at h
        exact ⟨h.1.symm, h.2.1.symm⟩
    · have h3 := cmp_stuck h1 h0 1
      rw [h3] at h
      simp only [Prod.mk.injEq] at h
      obtain ⟨rfl, rfl, rfl⟩ := h
      exact ih h1 hc
theorem least_not {P : Nat → Bool} : ∀ {n : Nat}, (∃ j, j < n ∧ P j = false) → ∃ j, j < n ∧ P j = false ∧ ∀ i, i < j → P i = true
  | 0, h => by obtain ⟨j, hj, -⟩ := h; exact absurd hj (Nat.not_lt_zero _)
  | n + 1, h => by
    by_cases hn : ∃ j, j < n ∧ P j = false
    · obtain ⟨j, h1, h2, h3⟩ := least_not hn
      exact ⟨j, by omega, h2, h3⟩
    · have hall : ∀ i, i < n → P i = true := fun i hi => by
        cases hp : P i with
        | true => rfl
        | false => exact absurd ⟨i, hi, hp⟩ hn
      obtain ⟨j, h1, h2⟩ := h
      have : j = n := Nat.le_antisymm (by omega) (Nat.le_of_not_lt fun h => by rw [hall j h] at h2; cases h2)
      subst this
      exact ⟨j, by omega, h2, hall⟩
theorem sw_comp (h : Sw w p A c L W) (hL : L.length ≤ 40) {A1 : Option Addr} {c1 : Nat} (hI : Ints W A1 m f) (hm : m ≤ 30) {l : Int} (hl : -9223372036854775808 ≤ l ∧ l ≤ 9223372036854775807) (hlim : l.toNat = lim) :
    Calls Tryd.prog 27 #[.pointer (some ⟨p, 0, none⟩), .slice A1 m c1, .int .i64 l] W (RetLaw w p A c L lim m f W) := by
  obtain ⟨own, hA, -⟩ := id h.1
  by_cases hall : ∃ j, j < m ∧ hasP L.length (f j) = false
  · obtain ⟨j, h1, h2, h3⟩ := least_not hall
    exact (comp_no hA hI hm h1 h2 h3 l).mono fun e w' ⟨he, hw⟩ => .inr (.inl ⟨he, by rw [← hw]; exact h, hall, by rw [← hw]; exact Below.refl _ _⟩)
  · have hal : ∀ j, j < m → hasP L.length (f j) = true := fun j hj => by
      cases hp : hasP L.length (f j) with
      | true => rfl
      | false => exact absurd ⟨j, hj, hp⟩ hall
    refine (comp_yes hA hI hm (by omega) hal hl hlim).mono fun e w' hr => ?_
    obtain ⟨⟨M, R, cc⟩, hc⟩ : ∃ t, cmpP lim L f m = t := ⟨_, rfl⟩
    rw [hc] at hr
    rcases hr with ⟨h0, q, rg, he, hb, own2, k1, -, k2, -⟩ | ⟨h0, b, v, he, hb, hk⟩
    · have h0 : cc = 0 := h0
      subst h0
      exact .inl ⟨q, rg, M, R, he, ⟨h.below hb, ⟨own2, k1⟩, k2⟩, hc, hal, hb⟩
    · obtain ⟨rfl, rfl⟩ := cmp_zero hc h0
      exact .inr (.inr ⟨b, v, cc, he, h.below hb, h0, hc, hal, hk, hb⟩)
theorem Cd.at_ (h : Cd w p A c L q M rg m R lim W) {i : Nat} (hi : i < m) : W.cell? ⟨rg, i, none⟩ = some (.int .i64 (R.getD i 0)) := (h.row.cell i).trans (intsR_at R hi)
end
end Go.Proofs.YtlddelnbjihhgaaDoor
