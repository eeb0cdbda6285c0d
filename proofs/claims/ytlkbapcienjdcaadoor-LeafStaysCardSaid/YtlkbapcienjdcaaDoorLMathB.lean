/- The leaf layer: what is in another one, and what both make. -/
import Derived.Test.YtlkbapcienjdcaaDoorLMath
namespace Go.Proofs.YtlkbapcienjdcaaDoor
open Go.RowKit
section
variable {m : Nat} {R S R' S' : Option Mat} {C D : Mat}
theorem sameO_text (h : SameO m R S) : textZ m R = textZ m S := by
  match R, S, h with
  | none, none, _ => rfl
  | some C, some D, h =>
    show Lib.join _ _ = Lib.join _ _
    rw [flat_congr (show Same m C D from h)]
theorem text_sameO (h0 : 0 < m) (h : textZ m R = textZ m S) : SameO m R S := by
  have q := text_inj h0 h
  match R, S, q with
  | none, none, _ => trivial
  | none, some D, q => simp at q
  | some C, none, q => simp at q
  | some C, some D, q => exact flat_same (by simpa using q)
theorem so_symm (h : SameO m R S) : SameO m S R := by
  match R, S, h with
  | none, none, _ => trivial
  | some C, some D, h => exact fun i j hi hj => (h i j hi hj).symm
theorem so_trans {T : Option Mat} (h : SameO m R S) (k : SameO m S T) : SameO m R T := by
  match R, S, T, h, k with
  | none, none, none, _, _ => trivial
  | some C, some D, some E, h, k => exact fun i j hi hj => (h i j hi hj).trans (k i j hi hj)
theorem leqO_iff : leqO m m (some C) (some D) = true ↔ ∀ i j, i < m → j < m → C i j ≤ D i j := by
  unfold leqO
  simp only [decide_true, Bool.true_and]
  exact leB_iff m C D
theorem bool_iff {a b : Bool} (h : a = true ↔ b = true) : a = b := by
  cases a <;> cases b <;> simp at h <;> rfl
theorem leq_congr (h : SameO m S S') : leqO m m R S = leqO m m R S' := by
  match R, S, S', h with
  | none, _, _, _ => rfl
  | some C, none, none, _ => rfl
  | some C, some D, some E, h =>
    refine bool_iff ?_
    rw [leqO_iff, leqO_iff]
    exact ⟨fun q i j hi hj => by rw [← h i j hi hj]; exact q i j hi hj, fun q i j hi hj => by rw [h i j hi hj]; exact q i j hi hj⟩
theorem leq_congrL (h : SameO m R R') : leqO m m R S = leqO m m R' S := by
  match R, R', S, h with
  | none, none, _, _ => rfl
  | some C, some D, none, _ => rfl
  | some C, some D, some E, h =>
    refine bool_iff ?_
    rw [leqO_iff, leqO_iff]
    exact ⟨fun q i j hi hj => by rw [← h i j hi hj]; exact q i j hi hj, fun q i j hi hj => by rw [h i j hi hj]; exact q i j hi hj⟩
theorem leq_self (m : Nat) (R : Option Mat) : leqO m m R R = true := by
  cases R with
  | none => exact leq_none m none
  | some C => exact leqO_iff.2 fun i j _ _ => Int.le_refl _
theorem jn_some (m : Nat) (C D : Mat) : jnO m m (some C) (some D) = some (maxM C D) := by simp [jnO]
theorem jn_ge1 (m : Nat) (R S : Option Mat) : leqO m m R (jnO m m R S) = true := by
  match R, S with
  | none, S => exact leq_none m _
  | some C, none => rw [show jnO m m (some C) none = some C by simp [jnO]]; exact leq_self m _
  | some C, some D => rw [jn_some]; exact leqO_iff.2 fun i j _ _ => by show C i j ≤ max (C i j) (D i j); omega
theorem jn_ge2 (m : Nat) (R S : Option Mat) : leqO m m S (jnO m m R S) = true := by
  match R, S with
  | none, S => rw [show jnO m m none S = S by simp [jnO]]; exact leq_self m _
  | some C, none => exact leq_none m _
  | some C, some D => rw [jn_some]; exact leqO_iff.2 fun i j _ _ => by show D i j ≤ max (C i j) (D i j); omega
theorem jn_right : SameO m (jnO m m R S) S ↔ leqO m m R S = true := by
  match R, S with
  | none, S =>
    rw [show jnO m m none S = S by simp [jnO]]
    refine ⟨fun _ => leq_none m _, fun _ => ?_⟩
    cases S with
    | none => trivial
    | some D => exact fun i j _ _ => rfl
  | some C, none =>
    rw [show jnO m m (some C) none = some C by simp [jnO]]
    exact ⟨fun h => h.elim, fun h => by simp [leqO] at h⟩
  | some C, some D =>
    rw [jn_some, leqO_iff]
    exact ⟨fun h i j hi hj => by have : max (C i j) (D i j) = D i j := h i j hi hj; omega, fun h i j hi hj => by show max (C i j) (D i j) = D i j; have := h i j hi hj; omega⟩
theorem jn_left (h : leqO m m S R = true) : SameO m (jnO m m R S) R := by
  match R, S, h with
  | R, none, _ => rw [jn_none]; cases R with
    | none => trivial
    | some D => exact fun i j _ _ => rfl
  | none, some D, h => simp [leqO] at h
  | some C, some D, h =>
    rw [jn_some]
    rw [leqO_iff] at h
    exact fun i j hi hj => by show max (C i j) (D i j) = C i j; have := h i j hi hj; omega
theorem mt_le (m : Nat) (R S : Option Mat) : leqO m m (mtO m m R S) R = true := by
  have e : mtO m m R S = mtR m R S := if_pos rfl
  rw [e]
  match R, S with
  | none, S => exact leq_none m _
  | some C, none => exact leq_none m _
  | some C, some D =>
    cases q : mtR m (some C) (some D) with
    | none => exact leq_none m _
    | some E =>
      obtain ⟨ha, rfl⟩ := setR_some (show setR m (minM C D) = some E from q)
      refine leqO_iff.2 fun i j _ _ => ?_
      have h1 := lev_le_cap (minM C D) m i j
      have h2 := (cap_le (minM C D) i j).1
      have h3 : minM C D i j ≤ C i j := by show min (C i j) (D i j) ≤ C i j; omega
      omega
theorem mt_left (hR : ∀ C, R = some C → Closed m C) (h : leqO m m R S = true) : SameO m (mtO m m R S) R := by
  have e : mtO m m R S = mtR m R S := if_pos rfl
  rw [e]
  match R, S, hR, h with
  | none, S, _, _ => cases S <;> trivial
  | some C, none, _, h => simp [leqO] at h
  | some C, some D, hR, h =>
    rw [leqO_iff] at h
    have hC := hR C rfl
    have hs : Same m (cap C) (cap (minM C D)) := fun i j hi hj => by
      have e2 : minM C D i j = C i j := by show min (C i j) (D i j) = C i j; have := h i j hi hj; omega
      unfold cap
      rw [e2]
    obtain ⟨hl1, hl2⟩ := lev_same hC
    have ha : Alive m (minM C D) := alive_congr hs hl1
    show SameO m (setR m (minM C D)) (some C)
    rw [setR_yes ha]
    exact fun i j hi hj => (lev_congr hs m (Nat.le_refl _) i j hi hj).symm.trans (hl2 i j hi hj)
theorem jn_congr (h : SameO m S S') : SameO m (jnO m m R S) (jnO m m R S') := by
  match R, S, S', h with
  | none, none, none, _ => simp [jnO]; trivial
  | none, some D, some E, h => simpa [jnO] using h
  | some C, none, none, _ => simp [jnO]; exact fun i j _ _ => rfl
  | some C, some D, some E, h => rw [jn_some, jn_some]; exact fun i j hi hj => by show max (C i j) (D i j) = max (C i j) (E i j); rw [h i j hi hj]
end
section
variable {B p bm m lim : Nat} {v : Value} {L L' K : List Lz} {W : World} {x y : Lz} {i j : Nat} {R S : Option Mat} {a e : Int}
theorem putO_err (h : PutO m lim L R L' a e) : e = 0 ∨ e = 40 := by
  rcases h with ⟨_, _, h⟩ | ⟨_, _, _, _, h⟩ | ⟨_, _, _, _, h⟩
  · exact .inl h
  · exact .inr h
  · exact .inl h
theorem putO_room (h : PutO m lim L R L' a e) (hl : L.length < lim) : e = 0 := by
  rcases h with ⟨_, _, h⟩ | ⟨_, h, _⟩ | ⟨_, _, _, _, h⟩
  · exact h
  · omega
  · exact h
/-- The zone that was put has its number. -/
theorem putO_at (h0 : 0 < m) (h : PutO m lim L R L' a 0) : ∃ (n : Nat) (x : Lz), a = (n : Int) ∧ L'[n]? = some x ∧ SameO m x.1 R := by
  rcases h with ⟨h1, rfl, _⟩ | ⟨_, _, _, _, h⟩ | ⟨_, _, ⟨A, c, rfl⟩, h2, _⟩
  · rcases idx_cases m L' (textZ m R) with ⟨q, _⟩ | ⟨n, q, _, x, hx, e⟩
    · rw [q] at h1; cases h1
    · rw [q] at h1; cases h1
      exact ⟨n, x, rfl, hx, text_sameO h0 e⟩
  · cases h
  · refine ⟨L.length, (R, A, c), h2, ?_, ?_⟩
    · rw [List.getElem?_append_right (Nat.le_refl _), Nat.sub_self]; rfl
    · cases R with
      | none => trivial
      | some D => exact fun i j _ _ => rfl
theorem same_at (h : LTab B p bm v m lim L K W) (hx : L[i]? = some x) (hy : L[j]? = some y) (hs : SameO m x.1 y.1) : i = j := h.apart i j x y hx hy (sameO_text hs)
theorem at_z (hx : L[i]? = some x) : atZ L (i : Int) = x.1 := (at_of hx).2
theorem prefix_at {r : List Lz} (hx : L[i]? = some x) : (L ++ r)[i]? = some x := by
  rw [List.getElem?_append_left (List.getElem?_eq_some_iff.1 hx).1]; exact hx
end
end Go.Proofs.YtlkbapcienjdcaaDoor
