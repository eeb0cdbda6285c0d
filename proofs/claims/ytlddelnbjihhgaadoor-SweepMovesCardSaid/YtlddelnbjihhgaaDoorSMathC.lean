/- What a row of nodes is compacted to, and which of its nodes are needed, plainly. Nothing of the program stands here. -/
import Derived.Test.YtlddelnbjihhgaaDoorSMath
namespace Go.Proofs.YtlddelnbjihhgaaDoor

theorem pigeon {A B : List Nat} (φ : Nat → Nat) (hA : A.Nodup) (hm : ∀ a ∈ A, φ a ∈ B) (hi : ∀ a ∈ A, ∀ b ∈ A, φ a = φ b → a = b) : A.length ≤ B.length := by
  have h := nodup_len (A := A.map φ) (B := B) ?_ ?_
  · simpa using h
  · unfold List.Nodup
    rw [List.pairwise_map]
    exact List.Pairwise.imp_of_mem (fun {a b} ha hb hne e => hne (hi a ha b hb e)) hA
  · intro x hx
    obtain ⟨a, ha, rfl⟩ := List.mem_map.1 hx
    exact hm a ha
section
variable {lim : Nat} {L M M0 M1 : List Nd}
/-- Whatever came new is what some node came to. -/
def Came (lim : Nat) (L M0 M : List Nd) : Prop := ∀ j : Nat, M0.length ≤ j → j < M.length → ∃ k : Nat, k < L.length ∧ mvP lim L (k : Int) M = (M, (j : Int), 0)
theorem came_start (M : List Nd) : Came lim L M M := fun j h0 h1 => by omega
theorem came_len (h : Came lim L M0 M) : M.length ≤ M0.length + L.length := by
  classical
  by_cases hl : M.length ≤ M0.length
  · omega
  · let φ : Nat → Nat := fun j => if hj : M0.length ≤ j ∧ j < M.length then Classical.choose (h j hj.1 hj.2) else 0
    have hφ : ∀ j, M0.length ≤ j → j < M.length → φ j < L.length ∧ mvP lim L (φ j : Int) M = (M, (j : Int), 0) := fun j h0 h1 => by
      have e : φ j = Classical.choose (h j h0 h1) := dif_pos ⟨h0, h1⟩
      rw [e]
      exact Classical.choose_spec (h j h0 h1)
    have := pigeon (A := List.range' M0.length (M.length - M0.length)) (B := List.range L.length) φ List.nodup_range' (fun a ha => ?_) (fun a ha b hb e => ?_)
    · simp only [List.length_range', List.length_range] at this
      omega
    · rw [List.mem_range'_1] at ha
      rw [List.mem_range]
      exact (hφ a (by omega) (by omega)).1
    · rw [List.mem_range'_1] at ha hb
      have h1 := (hφ a (by omega) (by omega)).2
      have h2 := (hφ b (by omega) (by omega)).2
      rw [e, h2] at h1
      simp only [Prod.mk.injEq] at h1
      omega
theorem came_step (hR : RightL L) (hM : RightL M) {r y : Int} (h : Came lim L M0 M) (hm : mvP lim L r M = (M1, y, 0)) : Came lim L M0 M1 := fun j h0 h1 => by
  have hM1 := mv_right hR hM hm
  by_cases hj : j < M.length
  · obtain ⟨k, a1, a2⟩ := h j h0 hj
    obtain ⟨X, rfl⟩ := mv_pre hR hM hm
    exact ⟨k, a1, mv_stay hR _ M M j X hM a2 hM1⟩
  · obtain ⟨k, a1, -, a2⟩ := mv_came hR r M M1 y hM hm j (by omega) h1
    exact ⟨k, a1, a2⟩

/-- All roots moved, in order: the nodes that are held then, the roots' refs, and the error's number. -/
def cmpP (lim : Nat) (L : List Nd) (f : Nat → Int) : Nat → List Nd × List Int × Int
  | 0 => ([], [], 0)
  | i + 1 => if (cmpP lim L f i).2.2 = 0 then (if (mvP lim L (f i) (cmpP lim L f i).1).2.2 = 0 then ((mvP lim L (f i) (cmpP lim L f i).1).1, (cmpP lim L f i).2.1 ++ [(mvP lim L (f i) (cmpP lim L f i).1).2.1], 0) else ([], [], (mvP lim L (f i) (cmpP lim L f i).1).2.2)) else cmpP lim L f i
variable {f : Nat → Int} {R R1 : List Int} {i n : Nat} {y c : Int}
theorem cmp_ok (h : cmpP lim L f i = (M, R, 0)) (hm : mvP lim L (f i) M = (M1, y, 0)) : cmpP lim L f (i + 1) = (M1, R ++ [y], 0) := by
  show (if (cmpP lim L f i).2.2 = 0 then _ else _) = _
  rw [h, if_pos rfl]
  dsimp only
  rw [hm, if_pos rfl]
theorem cmp_bad1 (h : cmpP lim L f i = (M, R, 0)) (hm : mvP lim L (f i) M = (M1, y, c)) (hc : c ≠ 0) : cmpP lim L f (i + 1) = ([], [], c) := by
  show (if (cmpP lim L f i).2.2 = 0 then _ else _) = _
  rw [h, if_pos rfl]
  dsimp only
  rw [hm, if_neg hc]
theorem cmp_stuck (h : cmpP lim L f i = (M, R, c)) (hc : c ≠ 0) : ∀ d, cmpP lim L f (i + d) = (M, R, c)
  | 0 => h
  | d + 1 => by
    have e := cmp_stuck h hc d
    show (if (cmpP lim L f (i + d)).2.2 = 0 then _ else cmpP lim L f (i + d)) = _
    rw [e, if_neg hc]
theorem cmp_bad (h : cmpP lim L f i = (M, R, 0)) (hm : mvP lim L (f i) M = (M1, y, c)) (hc : c ≠ 0) (hi : i < n) : cmpP lim L f n = ([], [], c) := by
  have := cmp_stuck (cmp_bad1 h hm hc) hc (n - (i + 1))
  rwa [show i + 1 + (n - (i + 1)) = n by omega] at this
theorem cmp_parts (h : cmpP lim L f (i + 1) = (M1, R1, 0)) : ∃ M R y, cmpP lim L f i = (M, R, 0) ∧ mvP lim L (f i) M = (M1, y, 0) ∧ R1 = R ++ [y] := by
  obtain ⟨⟨M, R, c⟩, hc⟩ : ∃ t, cmpP lim L f i = t := ⟨_, rfl⟩
  by_cases h0 : c = 0
  · subst h0
    obtain ⟨⟨N, y, d⟩, hd⟩ : ∃ t, mvP lim L (f i) M = t := ⟨_, rfl⟩
    by_cases h1 : d = 0
    · subst h1
      rw [cmp_ok hc hd] at h
      simp only [Prod.mk.injEq] at h
      obtain ⟨rfl, rfl, -⟩ := h
      exact ⟨M, R, y, hc, hd, rfl⟩
    · rw [cmp_bad1 hc hd h1] at h
      simp only [Prod.mk.injEq] at h
      exact absurd h.2.2 h1
  · rw [cmp_stuck hc h0 1] at h
    simp only [Prod.mk.injEq] at h
    exact absurd h.2.2 h0
theorem cmp_all (hR : RightL L) : ∀ {i : Nat} {M : List Nd} {R : List Int}, cmpP lim L f i = (M, R, 0) → RightL M ∧ R.length = i ∧ (∀ j, j < i → ∃ y, R[j]? = some y ∧ mvP lim L (f j) M = (M, y, 0)) ∧ ∀ j : Nat, j < M.length → ∃ k : Nat, k < L.length ∧ (∃ q, q < i ∧ Reach L (f q) (k : Int)) ∧ mvP lim L (k : Int) M = (M, (j : Int), 0)
  | 0, M, R, h => by
    have h : ([], [], 0) = (M, R, (0 : Int)) := h
    simp only [Prod.mk.injEq] at h
    obtain ⟨rfl, rfl, -⟩ := h
    exact ⟨right_none, rfl, fun j hj => absurd hj (Nat.not_lt_zero _), fun j hj => absurd hj (Nat.not_lt_zero _)⟩
  | i + 1, M1, R1, h => by
    obtain ⟨M, R, y, h1, h2, rfl⟩ := cmp_parts h
    obtain ⟨hM, hl, h3, h4⟩ := cmp_all hR h1
    have hM1 := mv_right hR hM h2
    have hst := mv_stay hR _ M M1 y [] hM h2 (by simpa using hM1)
    simp only [List.append_nil] at hst
    obtain ⟨X, hX⟩ := mv_pre hR hM h2
    refine ⟨hM1, by simp [hl], fun j hj => ?_, fun j hj => ?_⟩
    · by_cases e : j = i
      · subst e
        exact ⟨y, by rw [List.getElem?_append_right (by omega), hl]; simp, hst⟩
      · obtain ⟨z, g1, g2⟩ := h3 j (by omega)
        refine ⟨z, by rw [List.getElem?_append_left (by omega)]; exact g1, ?_⟩
        rw [hX] at hM1 ⊢
        exact mv_stay hR _ M M z X hM g2 hM1
    · by_cases e : j < M.length
      · obtain ⟨k, g1, ⟨q, g2, g3⟩, g4⟩ := h4 j e
        refine ⟨k, g1, ⟨q, by omega, g3⟩, ?_⟩
        rw [hX] at hM1 ⊢
        exact mv_stay hR _ M M j X hM g4 hM1
      · obtain ⟨k, g1, g2, g3⟩ := mv_came hR _ M M1 y hM h2 j (by omega) hj
        exact ⟨k, g1, ⟨i, by omega, g2⟩, g3⟩
theorem cmp_came (hR : RightL L) (h : cmpP lim L f i = (M, R, 0)) : Came lim L [] M := fun j _ h1 => by
  obtain ⟨k, g1, -, g2⟩ := (cmp_all hR h).2.2.2 j h1
  exact ⟨k, g1, g2⟩
theorem cmp_pre (hR : RightL L) (h : cmpP lim L f i = (M, R, 0)) : ∀ (d : Nat) {M1 : List Nd} {R1 : List Int}, cmpP lim L f (i + d) = (M1, R1, 0) → (∃ X, M1 = M ++ X) ∧ ∃ Y, R1 = R ++ Y
  | 0, M1, R1, g => by
    rw [show i + 0 = i from rfl, h] at g
    simp only [Prod.mk.injEq] at g
    obtain ⟨rfl, rfl, -⟩ := g
    exact ⟨⟨[], by simp⟩, [], by simp⟩
  | d + 1, M1, R1, g => by
    obtain ⟨N, Q, y, h1, h2, rfl⟩ := cmp_parts (i := i + d) g
    obtain ⟨⟨X, hX⟩, Y, rfl⟩ := cmp_pre hR h d h1
    obtain ⟨Z, hZ⟩ := mv_pre hR (cmp_all hR h1).1 h2
    exact ⟨⟨X ++ Z, by rw [hZ, hX, List.append_assoc]⟩, Y ++ [y], by rw [List.append_assoc]⟩
theorem cmp_ahead : ∀ (d : Nat) {M1 : List Nd} {R1 : List Int}, cmpP lim L f (i + d) = (M1, R1, 0) → ∃ M R, cmpP lim L f i = (M, R, 0)
  | 0, M1, R1, g => ⟨M1, R1, g⟩
  | d + 1, M1, R1, g => by
    obtain ⟨N, Q, y, h1, -, -⟩ := cmp_parts (i := i + d) g
    exact cmp_ahead d h1
/-- Compacted once more, by its new roots, it is the same. -/
theorem cmp_again (hR : RightL L) (hf : ∀ j, j < n → hasP L.length (f j) = true) (h : cmpP lim L f n = (M, R, 0)) : ∀ i, i ≤ n → cmpP lim M (fun j => R.getD j 0) i = cmpP lim L f i
  | 0, _ => rfl
  | i + 1, hi => by
    obtain ⟨M1, R1, h1⟩ := cmp_ahead (i := i + 1) (n - (i + 1)) (by rw [show i + 1 + (n - (i + 1)) = n by omega]; exact h)
    obtain ⟨⟨X, hX⟩, Y, hY⟩ := cmp_pre hR h1 (n - (i + 1)) (by rw [show i + 1 + (n - (i + 1)) = n by omega]; exact h)
    obtain ⟨N, Q, y, h2, h3, rfl⟩ := cmp_parts h1
    have ih := cmp_again hR hf h i (by omega)
    rw [h2] at ih
    have hl := (cmp_all hR h2).2.1
    have hy : R.getD i 0 = y := by
      rw [hY, List.getD_eq_getElem?_getD, List.append_assoc, List.getElem?_append_right (by omega), hl]
      simp
    rw [h1]
    refine cmp_ok ih ?_
    show mvP lim M (R.getD i 0) N = _
    rw [hy, hX]
    exact mv_again hR _ (hf i (by omega)) N M1 y X (cmp_all hR h2).1 h3 (by rw [← hX]; exact (cmp_all hR h).1)
theorem cmp_has (hR : RightL L) (hf : ∀ j, j < n → hasP L.length (f j) = true) (h : cmpP lim L f n = (M, R, 0)) : ∀ j, j < n → hasP M.length (R.getD j 0) = true ∧ ∀ b, endP M b (R.getD j 0) = endP L b (f j) := fun j hj => by
  obtain ⟨hM, -, h3, -⟩ := cmp_all hR h
  obtain ⟨y, g1, g2⟩ := h3 j hj
  rw [List.getD_eq_getElem?_getD, g1]
  exact mv_end hR _ (hf j hj) M M y hM g2

/-! ### Which are needed -/
def mark1 (B : Nat → Bool) (r : Int) : Nat → Bool := fun k => B k || decide (r = (k : Int))
def rootsB (f : Nat → Int) : Nat → Nat → Bool
  | 0 => fun _ => false
  | i + 1 => mark1 (rootsB f i) (f i)
def downB (L : List Nd) (B : Nat → Bool) : Nat → Nat → Bool
  | 0 => B
  | d + 1 => if downB L B d (L.length - 1 - d) = true then mark1 (mark1 (downB L B d) (L.getD (L.length - 1 - d) (0, 0, 0)).2.1) (L.getD (L.length - 1 - d) (0, 0, 0)).2.2 else downB L B d
def marksB (L : List Nd) (f : Nat → Int) (n : Nat) : Nat → Bool := downB L (rootsB f n) L.length
theorem mark1_iff {B : Nat → Bool} {r : Int} {k : Nat} : mark1 B r k = true ↔ B k = true ∨ r = (k : Int) := by unfold mark1; simp
theorem roots_iff {k : Nat} : ∀ {n : Nat}, rootsB f n k = true ↔ ∃ i, i < n ∧ f i = (k : Int)
  | 0 => by simp [rootsB]
  | n + 1 => by
    show mark1 (rootsB f n) (f n) k = true ↔ _
    rw [mark1_iff, roots_iff]
    constructor
    · rintro (⟨i, h1, h2⟩ | h)
      · exact ⟨i, by omega, h2⟩
      · exact ⟨n, by omega, h⟩
    · rintro ⟨i, h1, h2⟩
      by_cases e : i = n
      · subst e; exact .inr h2
      · exact .inl ⟨i, by omega, h2⟩
theorem down_step {B : Nat → Bool} {d k : Nat} {x : Nd} (hk : L.length - 1 - d = k) (hx : L[k]? = some x) : downB L B (d + 1) = if downB L B d k = true then mark1 (mark1 (downB L B d) x.2.1) x.2.2 else downB L B d := by
  show (if _ then _ else _) = _
  rw [hk, List.getD_eq_getElem?_getD, hx]
  rfl
theorem down_more {B : Nat → Bool} {d k : Nat} (h : downB L B d k = true) : downB L B (d + 1) k = true := by
  have e : downB L B (d + 1) = if downB L B d (L.length - 1 - d) = true then mark1 (mark1 (downB L B d) (L.getD (L.length - 1 - d) (0, 0, 0)).2.1) (L.getD (L.length - 1 - d) (0, 0, 0)).2.2 else downB L B d := rfl
  rw [e]
  split
  · exact mark1_iff.2 (.inl (mark1_iff.2 (.inl h)))
  · exact h
theorem down_mores {B : Nat → Bool} {d k : Nat} (h : downB L B d k = true) : ∀ e, downB L B (d + e) k = true
  | 0 => h
  | e + 1 => down_more (down_mores h e)
theorem down_only {C : Nat → Prop} {B : Nat → Bool} (h0 : ∀ k, B k = true → C k) (h1 : ∀ (k : Nat) (x : Nd), L[k]? = some x → C k → (∀ j : Nat, x.2.1 = (j : Int) → C j) ∧ ∀ j : Nat, x.2.2 = (j : Int) → C j) : ∀ d, d ≤ L.length → ∀ k, downB L B d k = true → C k
  | 0, _ => h0
  | d + 1, hd => fun k hk => by
    have hx : L[L.length - 1 - d]? = some L[L.length - 1 - d] := List.getElem?_eq_getElem (by omega)
    rw [down_step rfl hx] at hk
    split at hk
    · rename_i hb
      have hc := h1 _ _ hx (down_only h0 h1 d (by omega) _ hb)
      rw [mark1_iff, mark1_iff] at hk
      rcases hk with (hk | hk) | hk
      · exact down_only h0 h1 d (by omega) k hk
      · exact hc.1 k hk
      · exact hc.2 k hk
    · exact down_only h0 h1 d (by omega) k hk
/-- What stands from a place on stays, as children come ahead. -/
theorem down_keep (hR : RightL L) {B : Nat → Bool} {d k : Nat} (hd : d < L.length) (hk : L.length - 1 - d ≤ k) : downB L B (d + 1) k = downB L B d k := by
  have hx : L[L.length - 1 - d]? = some L[L.length - 1 - d] := List.getElem?_eq_getElem (by omega)
  obtain ⟨-, -, ⟨g1, -⟩, g2, -⟩ := hR.1 _ _ hx
  rw [hasP_iff] at g1 g2
  rw [down_step rfl hx]
  split
  · unfold mark1
    rw [decide_eq_false (by omega), decide_eq_false (by omega)]
    simp
  · rfl
theorem down_keeps (hR : RightL L) {B : Nat → Bool} {d k : Nat} (hk : L.length - 1 - d ≤ k) : ∀ e, d + e ≤ L.length → downB L B (d + e) k = downB L B d k
  | 0, _ => rfl
  | e + 1, he => (down_keep hR (d := d + e) (by omega) (by omega)).trans (down_keeps hR hk e (by omega))
theorem marks_closed (hR : RightL L) {B : Nat → Bool} {k : Nat} {x : Nd} (hx : L[k]? = some x) (hk : downB L B L.length k = true) (j : Nat) (hj : x.2.1 = (j : Int) ∨ x.2.2 = (j : Int)) : downB L B L.length j = true := by
  have hkl := get_len hx
  have e1 := down_keeps hR (B := B) (d := L.length - 1 - k) (k := k) (by omega) (k + 1) (by omega)
  rw [show L.length - 1 - k + (k + 1) = L.length by omega, hk] at e1
  have e2 := down_step (B := B) (d := L.length - 1 - k) (k := k) (by omega) hx
  rw [if_pos e1.symm] at e2
  have e3 : downB L B (L.length - 1 - k + 1) j = true := by
    rw [e2, mark1_iff, mark1_iff]
    rcases hj with h | h
    · exact .inl (.inr h)
    · exact .inr h
  have := down_mores e3 k
  rwa [show L.length - 1 - k + 1 + k = L.length by omega] at this
theorem marks_iff (hR : RightL L) {k : Nat} (_ : k < L.length) : marksB L f n k = true ↔ ∃ i, i < n ∧ Reach L (f i) (k : Int) := by
  constructor
  · refine down_only (C := fun k => ∃ i, i < n ∧ Reach L (f i) (k : Int)) (fun k h => ?_) (fun k x hx h => ?_) L.length (Nat.le_refl _) k
    · obtain ⟨i, h1, h2⟩ := roots_iff.1 h
      exact ⟨i, h1, by rw [h2]; exact .self⟩
    · obtain ⟨i, h1, h2⟩ := h
      exact ⟨fun j e => ⟨i, h1, e ▸ h2.low hx⟩, fun j e => ⟨i, h1, e ▸ h2.high hx⟩⟩
  · rintro ⟨i, hi, h⟩
    have key : ∀ r, Reach L (f i) r → ∀ j : Nat, r = (j : Int) → marksB L f n j = true := by
      intro r h
      induction h with
      | self => 
        intro j hj
        have := down_mores (L := L) (B := rootsB f n) (d := 0) (k := j) (roots_iff.2 ⟨i, hi, hj⟩) L.length
        rwa [Nat.zero_add] at this
      | low _ hx ih => intro j hj; exact marks_closed hR hx (ih _ rfl) j (.inl hj)
      | high _ hx ih => intro j hj; exact marks_closed hR hx (ih _ rfl) j (.inr hj)
    exact key _ h k rfl
def liveN (B : Nat → Bool) : Nat → Nat
  | 0 => 0
  | k + 1 => liveN B k + if B k = true then 1 else 0
def deadN (B : Nat → Bool) : Nat → Nat
  | 0 => 0
  | k + 1 => deadN B k + if B k = true then 0 else 1
theorem live_dead (B : Nat → Bool) : ∀ n, liveN B n + deadN B n = n
  | 0 => rfl
  | n + 1 => by
    have := live_dead B n
    show liveN B n + (if _ then _ else _) + (deadN B n + if _ then _ else _) = _
    split <;> omega
theorem live_filter (B : Nat → Bool) : ∀ n, ((List.range n).filter B).length = liveN B n
  | 0 => rfl
  | n + 1 => by
    rw [List.range_succ, List.filter_append, List.length_append, live_filter B n]
    show _ = liveN B n + if _ then _ else _
    by_cases h : B n = true
    · simp [h]
    · simp [h]
/-- An arena that was compacted has just as many nodes as are needed. -/
theorem cmp_count (hR : RightL L) (h : cmpP lim L f n = (M, R, 0)) : M.length = liveN (marksB L f n) L.length := by
  classical
  obtain ⟨hM, hl, h3, h4⟩ := cmp_all hR h
  rw [← live_filter]
  refine Nat.le_antisymm ?_ ?_
  · let φ : Nat → Nat := fun j => if hj : j < M.length then Classical.choose (h4 j hj) else 0
    have hφ : ∀ j, j < M.length → φ j < L.length ∧ (∃ q, q < n ∧ Reach L (f q) (φ j : Int)) ∧ mvP lim L (φ j : Int) M = (M, (j : Int), 0) := fun j hj => by
      have e : φ j = Classical.choose (h4 j hj) := dif_pos hj
      rw [e]
      exact Classical.choose_spec (h4 j hj)
    have := pigeon (A := List.range M.length) (B := (List.range L.length).filter (marksB L f n)) φ List.nodup_range (fun a ha => ?_) (fun a ha b hb e => ?_)
    · simpa using this
    · rw [List.mem_range] at ha
      obtain ⟨g1, g2, -⟩ := hφ a ha
      rw [List.mem_filter, List.mem_range]
      exact ⟨g1, (marks_iff hR g1).2 g2⟩
    · rw [List.mem_range] at ha hb
      have e1 := (hφ a ha).2.2
      have e2 := (hφ b hb).2.2
      rw [e, e2] at e1
      simp only [Prod.mk.injEq] at e1
      omega
  · have hz : ∀ k, k < L.length → marksB L f n k = true → ∃ j : Nat, j < M.length ∧ mvP lim L (k : Int) M = (M, (j : Int), 0) := fun k hk hm => by
      obtain ⟨i, hi, hr⟩ := (marks_iff hR hk).1 hm
      obtain ⟨y, -, g2⟩ := h3 i hi
      obtain ⟨z, hz⟩ := mv_below hR _ M M y hM g2 _ hr [] (by simpa using hM)
      simp only [List.append_nil] at hz
      obtain ⟨j, rfl, hj⟩ := mv_at hR (List.getElem?_eq_getElem hk) hM hz
      exact ⟨j, hj, hz⟩
    have := pigeon (A := (List.range L.length).filter (marksB L f n)) (B := List.range M.length) (fun k => (mvP lim L (k : Int) M).2.1.toNat) (List.Pairwise.filter _ List.nodup_range) (fun a ha => ?_) (fun a ha b hb e => ?_)
    · simpa using this
    · rw [List.mem_filter, List.mem_range] at ha
      obtain ⟨j, hj, e⟩ := hz a ha.1 ha.2
      rw [List.mem_range, e]
      exact hj
    · rw [List.mem_filter, List.mem_range] at ha hb
      obtain ⟨j, hj, e1⟩ := hz a ha.1 ha.2
      obtain ⟨q, hq, e2⟩ := hz b hb.1 hb.2
      rw [e1, e2] at e
      have : j = q := by simpa using e
      subst this
      have hasK : ∀ k : Nat, k < L.length → hasP L.length (k : Int) = true := fun k hk => by rw [hasP_iff]; omega
      have := mv_inj hR hM (hasK a ha.1) (hasK b hb.1) e1 e2
      omega
theorem cmp_dead (hR : RightL L) (hf : ∀ j, j < n → hasP L.length (f j) = true) (h : cmpP lim L f n = (M, R, 0)) : M.length + deadN (marksB L f n) L.length = L.length ∧ deadN (marksB M (fun j => R.getD j 0) n) M.length = 0 := by
  have h1 := cmp_count hR h
  have h2 := live_dead (marksB L f n) L.length
  have hM := (cmp_all hR h).1
  have h3 := cmp_count hM ((cmp_again hR hf h n (Nat.le_refl _)).trans h)
  have h4 := live_dead (marksB M (fun j => R.getD j 0) n) M.length
  omega
end
end Go.Proofs.YtlddelnbjihhgaaDoor
