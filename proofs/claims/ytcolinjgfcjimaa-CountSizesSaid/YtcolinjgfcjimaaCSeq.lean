/- A loop over an iterator, each party with blocks of its own: what the loop's body keeps is told by the blocks that it leans on, so that an iterator may itself loop over another one. -/
import Derived.Test.YtcolinjgfcjimaaCBase
import Derived.RangeFuncNested
import Derived.RangeFuncBound
import Derived.RangeFuncCalls
import Derived.RangeFuncLeaves
namespace Go.Proofs.Ytcolinjgfcjimaa
open Go.RowKit

/-- What is said of a world hangs on the blocks S alone; and these are there. -/
def Stays {α : Type} (J : List α → (Nat → Prop) → World → Prop) : Prop :=
  (∀ pre S W W', J pre S W → Only (fun k => ¬ S k) W W' → J pre S W') ∧ ∀ pre S W, J pre S W → ∀ k, S k → k < W.heap.size
/-- Behind a step: only blocks of S, and new ones, are other than they were; what it leans on now was in S, or is new. -/
def Step (S : Nat → Prop) (W : World) (S' : Nat → Prop) (W' : World) : Prop := Only S W W' ∧ ∀ k, S' k → S k ∨ W.heap.size ≤ k
theorem Step.refl (S : Nat → Prop) (W : World) : Step S W S W := ⟨Only.refl _ _, fun _ h => .inl h⟩
theorem Step.trans {S S1 S2 : Nat → Prop} {W W1 W2 : World} (h : Step S W S1 W1) (k : Step S1 W1 S2 W2) : Step S W S2 W2 :=
  ⟨h.1.trans k.1 h.2, fun i hi => (k.2 i hi).elim (h.2 i) fun g => .inr (Nat.le_trans h.1.size g)⟩
/-- One round of the loop l: its body keeps its word, and asks for more. -/
def Rounds {α : Type} (P : Program) (l : Nat) (encs : α → Array Value) (J : List α → (Nat → Prop) → World → Prop) (xs : List α) : Prop :=
  ∀ m pre x S W, J pre S W → pre ++ [x] <+: xs → YieldAt Fence.wide m P l (encs x) W fun e W' => e = .returned (.bool true) ∧ ∃ S', J (pre ++ [x]) S' W' ∧ Step S W S' W'
/-- The iterator has given all of xs. -/
def Gave {α : Type} (J : List α → (Nat → Prop) → World → Prop) (xs : List α) (S : Nat → Prop) (W : World) (e : Ending) (W' : World) : Prop := (∃ v, e = .returned v) ∧ ∃ S', J xs S' W' ∧ Step S W S' W'
theorem only_put {own : Nat → Prop} (W : World) {l : Nat} (o : Obj) (h : own l) : Only own W (W.putObj l o) :=
  ⟨rfl, rfl, rfl, by simp, fun i _ hn => World.putObj_heap_other fun e => hn (e ▸ h)⟩
theorem only_alloc (own : Nat → Prop) (W : World) (o : Obj) : Only own W (W.alloc o) := Only.of_below ((Below.refl _ _).alloc (Nat.le_refl _) _) own
theorem Only.same {own : Nat → Prop} {W W' : World} {k : Nat} {o : Obj} (h : Only own W W') (hk : W.heap[k]? = some o) (hn : ¬ own k) : W'.heap[k]? = some o := (h.2.2.2.2 k (Array.getElem?_eq_some_iff.1 hk).1 hn).trans hk
theorem heap_lt {W : World} {k : Nat} {o : Obj} (h : W.heap[k]? = some o) : k < W.heap.size := (Array.getElem?_eq_some_iff.1 h).1
/-- **The loop, over an iterator that gives xs.** -/
theorem range_law {α : Type} {P : Program} {n : Nat} {g : Operand} {ps : Array Tmp} {assign body : Code} {Q : Exit → Act → World → Prop} {a : Act} {w : World}
    {gf : Nat} {lb : Array Value} (hg : a.eval g = .func (.func gf) #[] lb) (eg : ∀ args w, (callFunc gf args).run P w = .ok (.enter gf args) w)
    {encs : α → Array Value} (hps : ∀ x, (encs x).size = ps.size) (xs : List α) (S : Nat → Prop) (I : List α → (Nat → Prop) → World → Prop) (hI : Stays I) (h0 : I [] S w)
    (hit : ∀ (m l : Nat) (W1 : World) (J : List α → (Nat → Prop) → World → Prop) (S1 : Nat → Prop), Below w.heap.size w W1 → Stays J → (∀ k, S1 k → S k ∨ w.heap.size ≤ k) → J [] S1 W1 → Rounds P l encs J xs → CallsIn Fence.wide m P gf (#[.func (.yield l) #[] #[]] ++ lb) W1 (Gave J xs S1 W1))
    (a₁ : α → Nat → Act) (obj : α → Obj)
    (hassign : ∀ (l m : Nat) (x : α) (W : World) (K : Act → World → Prop), K (a₁ x W.heap.size) (W.alloc (obj x)) → assign.wpIn (Fence.wide.inRound l) m P (Exit.then K (fun _ _ _ => False)) { tmps := (ps.zip (encs x)).foldl (fun t (p, v) => t.setIfInBounds p v) a.tmps, defers := [] } W)
    (hbody : ∀ (l m : Nat) (pre : List α) (x : α) (T : Nat → Prop) (W : World) (bx : Nat), I pre T W → pre ++ [x] <+: xs → W.heap[bx]? = some (obj x) → ¬ T bx → body.wpIn (Fence.wide.inRound l) m P (fun e _ W' => e = .normal ∧ ∃ T', I (pre ++ [x]) T' W' ∧ Step T W T' W') (a₁ x bx) W)
    (hdone : ∀ (D : Nat) (T : Nat → Prop) (W : World), I xs T W → Step S w T W → w.heap.size ≤ D → ¬ T D → W.heap[D]? = some (.deferred (some [])) → Q .normal { a with defers := { target := .collected D, args := #[] } :: a.defers } W) :
    (Code.rangeFunc g ps assign body).wpIn Fence.wide n P Q a w := by
  refine wpIn_rangeFunc ?_
  intro fn hfn
  obtain ⟨rec, hrec⟩ : ∃ rec : LoopState → Loop, rec = fun st => { state := st, pending := none, fn, tmps := a.tmps, params := ps, assign, body, defers := w.heap.size } := ⟨_, rfl⟩
  obtain ⟨W1, hW1⟩ : ∃ W1, (w.alloc (.deferred (some []))).alloc (.loop (rec .ready)) = W1 := ⟨_, rfl⟩
  have hb1 : Below w.heap.size w W1 := by
    rw [← hW1]; exact ((Below.refl _ w).alloc (Nat.le_refl _) _).alloc (by simp) _
  have hL1 : W1.heap[w.heap.size + 1]? = some (.loop (rec .ready)) := by
    rw [← hW1]; have := World.alloc_heap_new (w.alloc (.deferred (some []))) (.loop (rec .ready)); rwa [World.size_alloc] at this
  have hK1 : W1.heap[w.heap.size]? = some (.deferred (some [])) := by
    rw [← hW1]; exact (Below.heap_alloc _ _ _ (by simp)).trans (World.alloc_heap_new w _)
  have hS0 : ∀ k, S k → k < w.heap.size := hI.2 _ _ _ h0
  refine ⟨w.heap.size + 1, [{ target := .collected w.heap.size, args := #[] }], W1, { target := .fn (.func gf) lb, args := #[.func (.yield (w.heap.size + 1)) #[] #[]] }, W1, gf,
    #[.func (.yield (w.heap.size + 1)) #[] #[]] ++ lb, W1, ?_, ?_, ?_, ?_, ?_, ?_⟩
  · rw [← hW1, hrec]; exact run_enterLoop_outer _ _ _ _ _
  · simp only [resolve, hg]
    simp [go_sem]
  · intro f' hf'; trivial
  · simp [invoke, go_sem, eg]
  · intro h; cases h
  · refine (hit _ (w.heap.size + 1) W1
      (fun pre S' W => ∃ T : Nat → Prop, I pre T W ∧ (∀ k, S' k ↔ T k ∨ k = w.heap.size + 1 ∨ k = w.heap.size) ∧ ¬ T (w.heap.size + 1) ∧ ¬ T w.heap.size ∧ W.heap[w.heap.size + 1]? = some (.loop (rec .ready)) ∧ W.heap[w.heap.size]? = some (.deferred (some [])))
      (fun k => S k ∨ k = w.heap.size + 1 ∨ k = w.heap.size) hb1 ⟨?_, ?_⟩ ?_ ?_ ?_).mono ?_
    · rintro pre S' W W' ⟨T, hi, hS, nl, nD, hl, hD⟩ ho
      refine ⟨T, hI.1 _ _ _ _ hi (ho.mono fun i hn => .inl fun ht => hn ((hS i).2 (.inl ht))), hS, nl, nD, ho.same hl fun hn => hn ((hS _).2 (.inr (.inl rfl))), ho.same hD fun hn => hn ((hS _).2 (.inr (.inr rfl)))⟩
    · rintro pre S' W ⟨T, hi, hS, nl, nD, hl, hD⟩ k hk
      rcases (hS k).1 hk with h | rfl | rfl
      · exact hI.2 _ _ _ hi k h
      · exact heap_lt hl
      · exact heap_lt hD
    · rintro k (h | rfl | rfl)
      · exact .inl h
      · exact .inr (by omega)
      · exact .inr (Nat.le_refl _)
    · refine ⟨S, hI.1 _ _ _ _ h0 (Only.of_below hb1 _), fun k => Iff.rfl, fun h => by have := hS0 _ h; omega, fun h => by have := hS0 _ h; omega, hL1, hK1⟩
    · -- one round
      rintro m pre x S' W ⟨T, hi, hS, nl, nD, hl, hD⟩ hpre
      have hT : ∀ k, T k → k < W.heap.size := hI.2 _ _ _ hi
      have hllt := heap_lt hl
      have hy := run_yield (P := P) (args := encs x) hl (by rw [hrec]; exact hps x)
      rw [hrec] at hy
      refine ⟨fn, _, assign, body, hy, roundIn_of_wpIn hfn (hassign _ _ x W _ ?_)⟩
      clear hy
      have ha := only_alloc (fun k => ¬ T k) W (obj x)
      have hl2 : (W.alloc (obj x)).heap[w.heap.size + 1]? = some (.loop (rec .ready)) := (only_alloc (fun _ => False) W (obj x)).same hl id
      have hD2 : (W.alloc (obj x)).heap[w.heap.size]? = some (.deferred (some [])) := (only_alloc (fun _ => False) W (obj x)).same hD id
      refine ⟨_, run_beginRound hl2 (by rw [hrec]), ?_⟩
      obtain ⟨Wb, hWb⟩ : ∃ Wb, (W.alloc (obj x)).putObj (w.heap.size + 1) (.loop { rec .ready with state := .busy }) = Wb := ⟨_, rfl⟩
      have hbs : Wb.heap.size = W.heap.size + 1 := by rw [← hWb]; simp
      have hl3 : Wb.heap[w.heap.size + 1]? = some (.loop (rec .busy)) := by
        rw [← hWb, World.putObj_heap_same (heap_lt hl2), hrec]
      have hD3 : Wb.heap[w.heap.size]? = some (.deferred (some [])) := by
        rw [← hWb, World.putObj_heap_other (by omega)]; exact hD2
      have hbx : Wb.heap[W.heap.size]? = some (obj x) := by
        rw [← hWb, World.putObj_heap_other (by omega)]; exact World.alloc_heap_new W _
      have hob : ∀ own : Nat → Prop, own (w.heap.size + 1) → Only own W Wb := fun own ho => by
        rw [← hWb]; exact (only_alloc own W (obj x)).trans (only_put _ _ ho) fun _ h => .inl h
      rw [hWb]
      refine wpIn_mono (hbody _ _ pre x T Wb W.heap.size (hI.1 _ _ _ _ hi (hob _ nl)) hpre hbx fun ht => by have := hT _ ht; omega) ?_
      rintro e a3 W3 ⟨rfl, T', hi3, ho3, hn3⟩
      have hl4 := ho3.same hl3 nl
      have hD4 := ho3.same hD3 nD
      have nl' : ¬ T' (w.heap.size + 1) := fun h => (hn3 _ h).elim nl fun g => by omega
      have nD' : ¬ T' w.heap.size := fun h => (hn3 _ h).elim nD fun g => by omega
      have hr := run_endRound (P := P) none hl4
      refine ⟨_, _, hr, rfl, fun k => T' k ∨ k = w.heap.size + 1 ∨ k = w.heap.size, ⟨T', hI.1 _ _ _ _ hi3 (only_put _ _ nl'), fun k => Iff.rfl, nl', nD', ?_, ?_⟩, ?_, ?_⟩
      · rw [World.putObj_heap_same (heap_lt hl4), hrec]
        rfl
      · rw [World.putObj_heap_other (by omega)]; exact hD4
      · refine ((hob S' ((hS _).2 (.inr (.inl rfl)))).trans ho3 fun i hi => .inl ((hS i).2 (.inl hi))).trans (own1 := S') (only_put _ _ ((hS _).2 (.inr (.inl rfl)))) fun _ h => .inl h
      · rintro k (h | rfl | rfl)
        · rcases hn3 k h with h | h
          · exact .inl ((hS k).2 (.inl h))
          · exact .inr (by omega)
        · exact .inl ((hS _).2 (.inr (.inl rfl)))
        · exact .inl ((hS _).2 (.inr (.inr rfl)))
    · rintro e W2 ⟨⟨v, rfl⟩, S', ⟨T, hi, hS, nl, nD, hl, hD⟩, ho, hn⟩
      refine ⟨none, _, by have := run_endLoop (P := P) hl (by rw [hrec]; simp); rw [hrec] at this; exact this, hdone w.heap.size T _ (hI.1 _ _ _ _ hi (only_put _ _ nl)) ⟨?_, ?_⟩ (Nat.le_refl _) nD ((World.putObj_heap_other (by omega)).trans hD)⟩
      · refine ((Only.of_below hb1 S).trans ho ?_).trans (own1 := fun k => k = w.heap.size + 1) (only_put _ _ rfl) ?_
        · rintro i (h | rfl | rfl)
          · exact .inl h
          · exact .inr (by omega)
          · exact .inr (Nat.le_refl _)
        · rintro i rfl
          exact .inr (by omega)
      · intro k hk
        rcases hn k ((hS k).2 (.inl hk)) with (h | rfl | rfl) | h
        · exact .inl h
        · exact absurd hk nl
        · exact absurd hk nD
        · exact .inr (Nat.le_trans hb1.size h)
end Go.Proofs.Ytcolinjgfcjimaa
