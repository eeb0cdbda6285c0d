/- What is moved from one row of nodes into another, plainly. Nothing of the program stands here. -/
import Derived.Test.YtlddelnbjihhgaaDoorCMath
import Derived.Test.YtlddelnbjihhgaaDoorNBuildMath
namespace Go.Proofs.YtlddelnbjihhgaaDoor

/-- On, if there is no error yet. -/
def thenP (s : List Nd × Int × Int) (k : List Nd → Int → List Nd × Int × Int) : List Nd × Int × Int := if s.2.2 = 0 then k s.1 s.2.1 else (s.1, 0, s.2.2)
/-- What comes of moving a ref: the nodes that are held then, the ref, and the error's number. -/
def mvP (lim : Nat) (L : List Nd) (r : Int) : List Nd → List Nd × Int × Int :=
  fold L (fun r M => (M, r, 0)) (fun v lo hi M => thenP (lo M) fun M1 l => thenP (hi M1) fun M2 h => mkP lim M2 v l h) r
section
variable {lim : Nat} {L M M1 M2 : List Nd}
theorem thenP_ok {s : List Nd × Int × Int} {k : List Nd → Int → List Nd × Int × Int} {N : List Nd} {y : Int} (h : thenP s k = (N, y, 0)) : ∃ N1 l, s = (N1, l, 0) ∧ k N1 l = (N, y, 0) := by
  obtain ⟨a, b, c⟩ := s
  unfold thenP at h
  dsimp only at h
  by_cases hc : c = 0
  · rw [if_pos hc] at h
    exact ⟨a, b, by rw [hc], h⟩
  · rw [if_neg hc] at h
    simp only [Prod.mk.injEq] at h
    exact absurd h.2.2 hc
theorem thenP_zero {N : List Nd} {l : Int} {k : List Nd → Int → List Nd × Int × Int} : thenP (N, l, 0) k = k N l := if_pos rfl
theorem mv_out {r : Int} (h : ¬ (0 ≤ r ∧ r < (L.length : Int))) (M : List Nd) : mvP lim L r M = (M, r, 0) := congrFun (fold_out h) M
theorem mv_node (hR : RightL L) {k : Nat} {x : Nd} (h : L[k]? = some x) (M : List Nd) : mvP lim L (k : Int) M = thenP (mvP lim L x.2.1 M) fun M1 l => thenP (mvP lim L x.2.2 M1) fun M2 h => mkP lim M2 x.1 l h := congrFun (fold_node hR h) M
/-- The nodes that there were stay; all is right. -/
theorem then_more {s : List Nd × Int × Int} {k : List Nd → Int → List Nd × Int × Int} (hs : RightL s.1 ∧ ∃ X, s.1 = M ++ X) (hk : ∀ N l, RightL N → RightL (k N l).1 ∧ ∃ X, (k N l).1 = N ++ X) : RightL (thenP s k).1 ∧ ∃ X, (thenP s k).1 = M ++ X := by
  unfold thenP
  split
  · obtain ⟨h1, X, h2⟩ := hs
    obtain ⟨h3, Y, h4⟩ := hk s.1 s.2.1 h1
    exact ⟨h3, X ++ Y, by rw [h4, h2, List.append_assoc]⟩
  · exact hs
theorem mv_more (hR : RightL L) : ∀ (r : Int) (M : List Nd), RightL M → RightL (mvP lim L r M).1 ∧ ∃ X, (mvP lim L r M).1 = M ++ X := by
  refine down hR (fun r hr M hM => ?_) fun k x hx _ _ h2 h3 M hM => ?_
  · rw [mv_out hr]; exact ⟨hM, [], by simp⟩
  · rw [mv_node hR hx]
    exact then_more (h2 M hM) fun N l hN => then_more (h3 N hN) fun N' l' hN' => ⟨mkP_right hN' _ _ _, mkP_more _ _ _ _ _⟩
/-- The parts of a move that goes well. -/
theorem mv_parts (hR : RightL L) {k : Nat} {x : Nd} (h : L[k]? = some x) {y : Int} (hm : mvP lim L (k : Int) M = (M1, y, 0)) :
    ∃ A l B h, mvP lim L x.2.1 M = (A, l, 0) ∧ mvP lim L x.2.2 A = (B, h, 0) ∧ mkP lim B x.1 l h = (M1, y, 0) := by
  rw [mv_node hR h] at hm
  obtain ⟨A, l, h1, h2⟩ := thenP_ok hm
  obtain ⟨B, g, h3, h4⟩ := thenP_ok h2
  exact ⟨A, l, B, g, h1, h3, h4⟩
theorem mv_right (hR : RightL L) (hM : RightL M) {r y c : Int} (h : mvP lim L r M = (M1, y, c)) : RightL M1 := by
  have := (mv_more (lim := lim) hR r M hM).1; rwa [h] at this
theorem mv_pre (hR : RightL L) (hM : RightL M) {r y c : Int} (h : mvP lim L r M = (M1, y, c)) : ∃ X, M1 = M ++ X := by
  have := (mv_more (lim := lim) hR r M hM).2; rwa [h] at this
theorem varP_app {X : List Nd} {r : Int} (h : hasP M.length r = true) : varP (M ++ X) r = varP M r := by
  rw [hasP_iff] at h
  unfold varP
  simp only [List.length_append]
  by_cases h0 : 0 ≤ r
  · rw [if_pos ⟨h0, by omega⟩, if_pos ⟨h0, h.2⟩, List.getD_eq_getElem?_getD, List.getD_eq_getElem?_getD, List.getElem?_append_left (by omega)]
  · rw [if_neg (fun g => h0 g.1), if_neg (fun g => h0 g.1)]
theorem hasP_app {X : List Nd} {r : Int} (h : hasP M.length r = true) : hasP (M ++ X).length r = true := hasP_mono (by simp) h
theorem get_app {X : List Nd} {k : Nat} {x : Nd} (h : M[k]? = some x) : (M ++ X)[k]? = some x := by
  rw [List.getElem?_append_left (get_len h)]; exact h
theorem where_at {x : Nd} {k : Nat} (hw : whereP M x = some k) : M[k]? = some x := by
  unfold whereP at hw
  obtain ⟨hk, hp, -⟩ := List.findIdx?_eq_some_iff_getElem.1 hw
  rw [List.getElem?_eq_getElem hk]
  exact congrArg some (by simpa using hp)
/-- What a node is that is made, where it goes well. -/
theorem mk_cases {v l h y : Int} (hm : mkP lim M v l h = (M1, y, 0)) : (0 ≤ v ∧ v < 12) ∧ (hasP M.length l = true ∧ v < varP M l) ∧ (hasP M.length h = true ∧ v < varP M h) ∧
    ((l = h ∧ M1 = M ∧ y = l) ∨ (l ≠ h ∧ ∃ k : Nat, y = (k : Int) ∧ M1[k]? = some (v, l, h) ∧ (M1 = M ∨ (M1 = M ++ [(v, l, h)] ∧ k = M.length)))) := by
  unfold mkP at hm
  split at hm
  · simp only [Prod.mk.injEq] at hm; omega
  rename_i hv
  split at hm
  · simp only [Prod.mk.injEq] at hm; omega
  rename_i hc
  have h1 : hasP M.length l = true ∧ v < varP M l := Classical.byContradiction fun h => hc (.inl h)
  have h2 : hasP M.length h = true ∧ v < varP M h := Classical.byContradiction fun h => hc (.inr h)
  refine ⟨by omega, h1, h2, ?_⟩
  split at hm
  · rename_i he
    simp only [Prod.mk.injEq] at hm
    exact .inl ⟨he, hm.1.symm, hm.2.1.symm⟩
  rename_i hne
  refine .inr ⟨hne, ?_⟩
  split at hm
  · rename_i k hw
    simp only [Prod.mk.injEq] at hm
    obtain ⟨rfl, rfl, -⟩ := hm
    exact ⟨k, rfl, where_at hw, .inl rfl⟩
  · split at hm
    · simp only [Prod.mk.injEq] at hm; omega
    · simp only [Prod.mk.injEq] at hm
      obtain ⟨rfl, rfl, -⟩ := hm
      exact ⟨M.length, rfl, by simp, .inr ⟨rfl, rfl⟩⟩
/-- What is made is made again, whatever came to it. -/
theorem mk_stay {v l h y : Int} (hm : mkP lim M v l h = (M1, y, 0)) {X : List Nd} (hR : RightL (M1 ++ X)) : mkP lim (M1 ++ X) v l h = (M1 ++ X, y, 0) := by
  obtain ⟨hv, hl, hh, hc⟩ := mk_cases hm
  have hp : ∃ Y, M1 = M ++ Y := by
    rcases hc with ⟨-, e, -⟩ | ⟨-, k, -, -, e | ⟨e, -⟩⟩
    · exact ⟨[], by rw [e]; simp⟩
    · exact ⟨[], by rw [e]; simp⟩
    · exact ⟨_, e⟩
  obtain ⟨Y, rfl⟩ := hp
  rw [List.append_assoc] at hR ⊢
  have q1 : hasP (M ++ (Y ++ X)).length l = true := hasP_app hl.1
  have q2 : hasP (M ++ (Y ++ X)).length h = true := hasP_app hh.1
  have q3 : varP (M ++ (Y ++ X)) l = varP M l := varP_app hl.1
  have q4 : varP (M ++ (Y ++ X)) h = varP M h := varP_app hh.1
  unfold mkP
  rw [if_neg (by omega), if_neg (by rw [q1, q2, q3, q4]; simp [hl.2, hh.2])]
  rcases hc with ⟨e, -, e2⟩ | ⟨e, k, rfl, hk, -⟩
  · rw [if_pos e, e2]
  · have hw : whereP (M ++ (Y ++ X)) (v, l, h) = some k := by
      refine whereP_some hR.2 ?_
      rw [← List.append_assoc]; exact get_app hk
    rw [if_neg e, hw]
theorem mv_stay (hR : RightL L) : ∀ (r : Int) (M M1 : List Nd) (y : Int) (X : List Nd), RightL M → mvP lim L r M = (M1, y, 0) → RightL (M1 ++ X) → mvP lim L r (M1 ++ X) = (M1 ++ X, y, 0) := by
  refine down hR (fun r hr M M1 y X hM hm hX => ?_) fun k x hx _ _ h2 h3 M M1 y X hM hm hX => ?_
  · rw [mv_out hr] at hm ⊢
    simp only [Prod.mk.injEq] at hm
    obtain ⟨rfl, rfl, -⟩ := hm
    rfl
  · obtain ⟨A, l, B, h, e1, e2, e3⟩ := mv_parts hR hx hm
    have hA := mv_right hR hM e1
    obtain ⟨Y, rfl⟩ := mv_pre hR hA e2
    obtain ⟨Z, hZ⟩ : ∃ Z, M1 = A ++ Y ++ Z := by have := mkP_more lim (A ++ Y) x.1 l h; rwa [e3] at this
    subst hZ
    rw [mv_node hR hx]
    have f1 := h2 M A l (Y ++ Z ++ X) hM e1 (by simpa [List.append_assoc] using hX)
    have f2 := h3 A (A ++ Y) h (Z ++ X) hA e2 (by simpa [List.append_assoc] using hX)
    have f3 := mk_stay e3 hX
    simp only [List.append_assoc] at f1 f2 f3 ⊢
    rw [f1, thenP_zero, f2, thenP_zero, f3]
/-- Where bits lead is not changed by what comes to a row. -/
theorem end_app (hR : RightL M) {X : List Nd} (hX : RightL (M ++ X)) (b : Nat) : ∀ r, hasP M.length r = true → endP (M ++ X) b r = endP M b r := by
  refine down hR (fun r hr h => ?_) fun k x hx g2 g3 h2 h3 _ => ?_
  · rw [hasP_iff] at h
    rw [endP_out hr, endP_out (by simp only [List.length_append]; omega)]
  · rw [endP_node hR b hx, endP_node hX b (get_app hx)]
    split
    · exact h3 g3
    · exact h2 g2
theorem mk_end (hM : RightL M) {v l h y : Int} (hm : mkP lim M v l h = (M1, y, 0)) (b : Nat) : hasP M1.length y = true ∧ endP M1 b y = endP M b (if b.testBit v.toNat = true then h else l) := by
  have h1 : RightL M1 := by have := mkP_right (lim := lim) hM v l h; rwa [hm] at this
  obtain ⟨X, rfl⟩ : ∃ X, M1 = M ++ X := by have := mkP_more lim M v l h; rwa [hm] at this
  obtain ⟨-, hl, hh, hc⟩ := mk_cases hm
  rcases hc with ⟨e, e1, rfl⟩ | ⟨-, k, rfl, hk, -⟩
  · rw [e1]
    refine ⟨hl.1, ?_⟩
    rw [← e]; simp
  · refine ⟨by rw [hasP_iff]; have := get_len hk; omega, ?_⟩
    rw [endP_node h1 b hk]
    split
    · exact end_app hM h1 b _ hh.1
    · exact end_app hM h1 b _ hl.1
/-- What is moved leads all bits where it did. -/
theorem mv_end (hR : RightL L) : ∀ (r : Int), hasP L.length r = true → ∀ (M M1 : List Nd) (y : Int), RightL M → mvP lim L r M = (M1, y, 0) → hasP M1.length y = true ∧ ∀ b, endP M1 b y = endP L b r := by
  refine down hR (fun r hr h M M1 y hM hm => ?_) fun k x hx g2 g3 h2 h3 _ M M1 y hM hm => ?_
  · rw [mv_out hr] at hm
    simp only [Prod.mk.injEq] at hm
    obtain ⟨rfl, rfl, -⟩ := hm
    rw [hasP_iff] at h
    refine ⟨by rw [hasP_iff]; omega, fun b => ?_⟩
    rw [endP_out hr, endP_out (by omega)]
  · obtain ⟨A, l, B, h, e1, e2, e3⟩ := mv_parts hR hx hm
    have hA := mv_right hR hM e1
    have hB := mv_right hR hA e2
    obtain ⟨k1, d1⟩ := h2 g2 M A l hM e1
    obtain ⟨k2, d2⟩ := h3 g3 A B h hA e2
    obtain ⟨Y, rfl⟩ := mv_pre hR hA e2
    refine ⟨(mk_end hB e3 0).1, fun b => ?_⟩
    rw [(mk_end hB e3 b).2, endP_node hR b hx]
    split
    · exact d2 b
    · rw [end_app hA hB b _ k1]; exact d1 b
/-- What comes to the same ref was the same. -/
theorem mv_inj (hR : RightL L) {r s y : Int} {N : List Nd} (hN : RightL N) (hr : hasP L.length r = true) (hs : hasP L.length s = true) (h1 : mvP lim L r N = (N, y, 0)) (h2 : mvP lim L s N = (N, y, 0)) : r = s := by
  have e1 := (mv_end hR r hr N N y hN h1).2
  have e2 := (mv_end hR s hs N N y hN h2).2
  have hr' := hr
  have hs' := hs
  rw [hasP_iff] at hr' hs'
  exact ends_same hR L.length.succ r s (by omega) (by omega) hr hs fun b _ => (e1 b).symm.trans (e2 b)
/-- The children of what is moved are unlike, and so a node comes to a node. -/
theorem mv_unlike (hR : RightL L) {k : Nat} {x : Nd} (hx : L[k]? = some x) (hM : RightL M) {A B : List Nd} {l h : Int} (e1 : mvP lim L x.2.1 M = (A, l, 0)) (e2 : mvP lim L x.2.2 A = (B, h, 0)) : l ≠ h := fun e => by
  subst e
  have hA := mv_right hR hM e1
  have hB := mv_right hR hA e2
  obtain ⟨Y, rfl⟩ := mv_pre hR hA e2
  obtain ⟨-, hne, ⟨g2, -⟩, g3, -⟩ := hR.1 _ _ hx
  have hkl := get_len hx
  refine hne (mv_inj (lim := lim) (N := A ++ Y) hR hB (hasP_mono (Nat.le_of_lt hkl) g2) (hasP_mono (Nat.le_of_lt hkl) g3) (mv_stay hR _ M A l Y hM e1 hB) ?_)
  have := mv_stay hR _ A (A ++ Y) l [] hA e2 (by simpa using hB)
  simpa using this
theorem mv_at (hR : RightL L) {k : Nat} {x : Nd} (hx : L[k]? = some x) (hM : RightL M) {y : Int} (hm : mvP lim L (k : Int) M = (M1, y, 0)) : ∃ j : Nat, y = (j : Int) ∧ j < M1.length := by
  obtain ⟨A, l, B, h, e1, e2, e3⟩ := mv_parts hR hx hm
  obtain ⟨-, -, -, hc⟩ := mk_cases e3
  rcases hc with ⟨e, -⟩ | ⟨-, j, rfl, hj, -⟩
  · exact absurd e (mv_unlike hR hx hM e1 e2)
  · exact ⟨j, rfl, get_len hj⟩
/-- What comes new of a move are what some nodes below come to. -/
theorem mv_came (hR : RightL L) : ∀ (r : Int) (M M1 : List Nd) (y : Int), RightL M → mvP lim L r M = (M1, y, 0) → ∀ j : Nat, M.length ≤ j → j < M1.length → ∃ k : Nat, k < L.length ∧ Reach L r (k : Int) ∧ mvP lim L (k : Int) M1 = (M1, (j : Int), 0) := by
  refine down hR (fun r hr M M1 y hM hm j h0 h1 => ?_) fun k x hx _ _ h2 h3 M M1 y hM hm j h0 h1 => ?_
  · rw [mv_out hr] at hm
    simp only [Prod.mk.injEq] at hm
    obtain ⟨rfl, -, -⟩ := hm
    omega
  · have hM1 := mv_right hR hM hm
    obtain ⟨A, l, B, h, e1, e2, e3⟩ := mv_parts hR hx hm
    have hA := mv_right hR hM e1
    have hB := mv_right hR hA e2
    obtain ⟨Z, hZ⟩ : ∃ Z, M1 = B ++ Z := by have := mkP_more lim B x.1 l h; rwa [e3] at this
    obtain ⟨Y, hY⟩ := mv_pre hR hA e2
    by_cases c1 : j < A.length
    · obtain ⟨k', a1, a2, a3⟩ := h2 M A l hM e1 j h0 c1
      refine ⟨k', a1, (Reach.low .self hx).trans a2, ?_⟩
      have := mv_stay hR _ A A j (Y ++ Z) hA a3 (by rw [← List.append_assoc, ← hY, ← hZ]; exact hM1)
      rw [← List.append_assoc, ← hY, ← hZ] at this
      exact this
    · by_cases c2 : j < B.length
      · obtain ⟨k', a1, a2, a3⟩ := h3 A B h hA e2 j (by omega) c2
        refine ⟨k', a1, (Reach.high .self hx).trans a2, ?_⟩
        have := mv_stay hR _ B B j Z hB a3 (by rw [← hZ]; exact hM1)
        rw [← hZ] at this
        exact this
      · obtain ⟨-, -, -, hc⟩ := mk_cases e3
        refine ⟨k, get_len hx, .self, ?_⟩
        have hs := mv_stay hR _ M M1 y [] hM hm (by simpa using hM1)
        simp only [List.append_nil] at hs
        rcases hc with ⟨-, e, -⟩ | ⟨-, q, rfl, hq, e | ⟨e, hq2⟩⟩
        · rw [e] at h1; omega
        · rw [e] at h1; omega
        · rw [e] at h1
          simp only [List.length_append, List.length_singleton] at h1
          have : q = j := by omega
          rw [← this]; exact hs
/-- What is below a ref that was moved comes to something. -/
theorem mv_below (hR : RightL L) : ∀ (r : Int) (M M1 : List Nd) (y : Int), RightL M → mvP lim L r M = (M1, y, 0) → ∀ s, Reach L r s → ∀ X, RightL (M1 ++ X) → ∃ z, mvP lim L s (M1 ++ X) = (M1 ++ X, z, 0) := by
  refine down hR (fun r hr M M1 y hM hm s hs X hX => ?_) fun k x hx _ _ h2 h3 M M1 y hM hm s hs X hX => ?_
  · have := reach_out hr hs
    subst this
    exact ⟨_, mv_out hr _⟩
  · obtain ⟨A, l, B, h, e1, e2, e3⟩ := mv_parts hR hx hm
    have hA := mv_right hR hM e1
    have hB := mv_right hR hA e2
    obtain ⟨Z, hZ⟩ : ∃ Z, M1 = B ++ Z := by have := mkP_more lim B x.1 l h; rwa [e3] at this
    obtain ⟨Y, hY⟩ := mv_pre hR hA e2
    rcases reach_node hx hs with rfl | hs | hs
    · exact ⟨y, mv_stay hR _ M M1 y X hM hm hX⟩
    · have := h2 M A l hM e1 s hs (Y ++ Z ++ X) (by rw [hZ, hY] at hX; simpa [List.append_assoc] using hX)
      rw [hZ, hY]; simpa [List.append_assoc] using this
    · have := h3 A B h hA e2 s hs (Z ++ X) (by rw [hZ] at hX; simpa [List.append_assoc] using hX)
      rw [hZ]; simpa [List.append_assoc] using this
/-- What was moved, moved out of where it came to, goes the same way. -/
theorem mv_again (hR : RightL L) : ∀ (r : Int), hasP L.length r = true → ∀ (M M1 : List Nd) (y : Int) (X : List Nd), RightL M → mvP lim L r M = (M1, y, 0) → RightL (M1 ++ X) → mvP lim (M1 ++ X) y M = (M1, y, 0) := by
  refine down hR (fun r hr h M M1 y X hM hm hX => ?_) fun k x hx g2 g3 h2 h3 _ M M1 y X hM hm hX => ?_
  · rw [mv_out hr] at hm
    simp only [Prod.mk.injEq] at hm
    obtain ⟨rfl, rfl, -⟩ := hm
    rw [hasP_iff] at h
    exact mv_out (by omega) _
  · obtain ⟨A, l, B, h, e1, e2, e3⟩ := mv_parts hR hx hm
    have hA := mv_right hR hM e1
    have hB := mv_right hR hA e2
    obtain ⟨-, -, -, hc⟩ := mk_cases e3
    obtain ⟨Z, hZ⟩ : ∃ Z, M1 = B ++ Z := by have := mkP_more lim B x.1 l h; rwa [e3] at this
    obtain ⟨Y, hY⟩ := mv_pre hR hA e2
    rcases hc with ⟨e, -⟩ | ⟨-, j, rfl, hj, -⟩
    · exact absurd e (mv_unlike hR hx hM e1 e2)
    · rw [mv_node hX (get_app hj)]
      have f1 := h2 g2 M A l (Y ++ Z ++ X) hM e1 (by rw [hZ, hY] at hX; simpa [List.append_assoc] using hX)
      have f2 := h3 g3 A B h (Z ++ X) hA e2 (by rw [hZ] at hX; simpa [List.append_assoc] using hX)
      have q1 : A ++ (Y ++ Z ++ X) = M1 ++ X := by rw [hZ, hY]; simp [List.append_assoc]
      have q2 : B ++ (Z ++ X) = M1 ++ X := by rw [hZ]; simp [List.append_assoc]
      rw [q1] at f1
      rw [q2] at f2
      show thenP (mvP lim (M1 ++ X) l M) (fun M1' l' => thenP (mvP lim (M1 ++ X) h M1') fun M2 h' => mkP lim M2 x.1 l' h') = _
      rw [f1, thenP_zero, f2, thenP_zero, e3]
end
end Go.Proofs.YtlddelnbjihhgaaDoor
