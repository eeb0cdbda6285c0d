/- A statement that draws its order, in a round of a loop over a function: all its operations but the last two only read; the last but one hands on to a loop's body. Whatever order is drawn, it comes to one end. -/
import Derived.Test.YtcolinjgfcjimaaCSeq
import Derived.OrdersIn
import Derived.TacticsInMore
namespace Go.Proofs.Ytcolinjgfcjimaa
open Go.RowKit

def slotsOf (o : Oper) : List Nat := o.op.operands.toList.filterMap fun x => match x with
  | .tmp t => some t
  | _ => none
def plainB (o : Oper) : Bool := o.guard.isNone && match o.op with
  | .defer _ => false
  | .select _ _ => false
  | _ => true
def bindsTo (o : Oper) (j : Nat) : Bool := o.after.any fun e => Region.binds .any e && e.on == j
/-- Each operation is plain, waits for earlier ones alone, and for all that write what it reads. -/
def depB (ops : Array Oper) : Bool := (List.range ops.size).all fun i => match ops[i]? with
  | none => true
  | some o => plainB o && (o.after.all fun e => decide (e.on < i)) && (slotsOf o).all fun s => (List.range ops.size).all fun j => match ops[j]? with
    | none => true
    | some oj => oj.dst != some s || bindsTo o j
/-- All write slots that there are, each one of its own. -/
def dstB (ops : Array Oper) (N : Nat) : Bool := (List.range ops.size).all fun i => match ops[i]? with
  | none => true
  | some o => match o.dst with
    | none => false
    | some d => decide (d < N) && (List.range ops.size).all fun j => match ops[j]? with
      | none => true
      | some oj => oj.dst != some d || j == i
def reachB (ops : Array Oper) : Nat → Nat → Nat → Bool
  | 0, _, _ => false
  | f + 1, c, i => match ops[c]? with
    | none => false
    | some o => o.after.any fun e => Region.binds .any e && (e.on == i || reachB ops f e.on i)
def lit (listed : Array Bool) (i : Nat) : Prop := listed.getD i false = true
/-- What is listed waits for nothing that is not. -/
def ClosedL (ops : Array Oper) (listed : Array Bool) : Prop := ∀ i o, lit listed i → ops[i]? = some o → ∀ e ∈ o.after, Region.binds .any e = true → lit listed e.on
theorem reach_lit {ops : Array Oper} {listed : Array Bool} (hc : ClosedL ops listed) : ∀ (f c i : Nat) (o : Oper), ops[c]? = some o → (∀ e ∈ o.after, Region.binds .any e = true → lit listed e.on) → reachB ops f c i = true → lit listed i := by
  intro f
  induction f with
  | zero => intro c i o _ _ h; cases h
  | succ f ih =>
    intro c i o ho hl h
    unfold reachB at h
    rw [ho] at h
    obtain ⟨e, he, hb⟩ := Array.any_eq_true'.1 h
    simp only [Bool.and_eq_true, Bool.or_eq_true, beq_iff_eq] at hb
    have hle := hl e he hb.1
    rcases hb.2 with rfl | hr
    · exact hle
    · cases ho2 : ops[e.on]? with
      | none =>
        cases f with
        | zero => cases hr
        | succ f => unfold reachB at hr; rw [ho2] at hr; cases hr
      | some o2 => exact ih e.on i o2 ho2 (hc e.on o2 hle ho2) hr
section
variable {ops : Array Oper} {listed : Array Bool}
theorem ready_mem {i : Nat} (h : i ∈ Region.ready .any ops listed) (hs : listed.size = ops.size) : ∃ o, ops[i]? = some o ∧ ¬ lit listed i ∧ ∀ e ∈ o.after, Region.binds .any e = true → lit listed e.on := by
  unfold Region.ready at h
  obtain ⟨hi, h⟩ := List.mem_filter.1 h
  have hi := List.mem_range.1 hi
  obtain ⟨o, ho⟩ : ∃ o, ops[i]? = some o := ⟨_, Array.getElem?_eq_getElem hi⟩
  rw [ho] at h
  simp only [Option.map_some, Option.getD_some, Bool.and_eq_true, Bool.not_eq_true'] at h
  refine ⟨o, ho, ?_, fun e he hb => ?_⟩
  · unfold lit
    have h1 := h.1
    rw [Array.getD_eq_getD_getElem?, Array.getElem?_eq_getElem (by omega)] at h1 ⊢
    simp only [Option.getD_some] at h1 ⊢
    rw [h1]
    exact Bool.false_ne_true
  · have := Array.all_eq_true'.1 h.2 e he
    rw [hb] at this
    simpa [lit] using this
theorem ready_of {i : Nat} {o : Oper} (ho : ops[i]? = some o) (hs : listed.size = ops.size) (hn : ¬ lit listed i) (hd : ∀ e ∈ o.after, Region.binds .any e = true → lit listed e.on) : i ∈ Region.ready .any ops listed := by
  have hi := (Array.getElem?_eq_some_iff.1 ho).1
  unfold Region.ready
  refine List.mem_filter.2 ⟨List.mem_range.2 hi, ?_⟩
  rw [ho]
  simp only [Option.map_some, Option.getD_some, Bool.and_eq_true, Bool.not_eq_true']
  refine ⟨?_, Array.all_eq_true'.2 fun e he => ?_⟩
  · unfold lit at hn
    rw [Array.getD_eq_getD_getElem?, Array.getElem?_eq_getElem (by omega)] at hn ⊢
    simpa using hn
  · cases hb : Region.binds .any e with
    | false => rfl
    | true => simpa [lit] using hd e he hb
theorem lit_set {i j : Nat} (hi : i < listed.size) : lit (listed.setIfInBounds i true) j ↔ j = i ∨ lit listed j := by
  unfold lit
  rw [Array.getD_eq_getD_getElem?, Array.getD_eq_getD_getElem?]
  by_cases e : j = i
  · subst e
    simp [hi]
  · rw [Array.getElem?_setIfInBounds_ne (Ne.symm e)]
    simp [e]
end
/-- How many are not listed. -/
def unl (n : Nat) (listed : Array Bool) : Nat := (List.range n).countP fun i => !listed.getD i false
theorem countP_less {l : List Nat} {p q : Nat → Bool} {i : Nat} (hi : i ∈ l) (hp : p i = true) (hq : q i = false) (h : ∀ j, j ≠ i → q j = p j) : l.countP q + 1 ≤ l.countP p := by
  have hle : ∀ l : List Nat, l.countP q ≤ l.countP p := fun l => List.countP_mono_left fun x _ hx => by
    by_cases e : x = i
    · rw [e, hq] at hx; cases hx
    · rw [← h x e]; exact hx
  induction l with
  | nil => cases hi
  | cons x l ih =>
    rw [List.countP_cons, List.countP_cons]
    by_cases e : x = i
    · rw [e, hp, hq]
      have := hle l
      simp
      omega
    · rcases List.mem_cons.1 hi with rfl | hm
      · exact absurd rfl e
      · rw [h x e]
        have := ih hm
        omega
theorem unl_set {n i : Nat} {listed : Array Bool} (hi : i < n) (hs : listed.size = n) (hn : ¬ lit listed i) : unl n (listed.setIfInBounds i true) + 1 ≤ unl n listed := by
  refine countP_less (List.mem_range.2 hi) ?_ ?_ fun j hj => ?_
  · unfold lit at hn
    cases h : listed.getD i false with
    | false => rfl
    | true => exact absurd h hn
  · have : lit (listed.setIfInBounds i true) i := (lit_set (by omega)).2 (.inl rfl)
    unfold lit at this
    rw [this]; rfl
  · have := lit_set (listed := listed) (j := j) (show i < listed.size by omega)
    unfold lit at this
    cases h1 : listed.getD j false <;> cases h2 : (listed.setIfInBounds i true).getD j false <;> simp_all
/-- The frame has what is listed. -/
structure Has (ops : Array Oper) (aS : Act) (listed : Array Bool) (A : Act) : Prop where
  size : A.tmps.size = aS.tmps.size
  defers : A.defers = aS.defers
  agree : ∀ s, (∀ (i : Nat) o, ops[i]? = some o → o.dst = some s → lit listed i) → A.tmps.getD s undef = aS.tmps.getD s undef
section
variable {P : Program} {ops : Array Oper} {aS A : Act} {listed : Array Bool}
theorem dep_at (h : depB ops = true) {i : Nat} {o : Oper} (ho : ops[i]? = some o) : plainB o = true ∧ (∀ e ∈ o.after, e.on < i) ∧ ∀ s ∈ slotsOf o, ∀ (j : Nat) oj, ops[j]? = some oj → oj.dst = some s → ∃ e ∈ o.after, Region.binds .any e = true ∧ e.on = j := by
  have hi := (Array.getElem?_eq_some_iff.1 ho).1
  have h1 := List.all_eq_true.1 h i (List.mem_range.2 hi)
  rw [ho] at h1
  simp only [Bool.and_eq_true] at h1
  obtain ⟨⟨h1, h2⟩, h3⟩ := h1
  refine ⟨h1, fun e he => of_decide_eq_true (Array.all_eq_true'.1 h2 e he), fun s hs j oj hj hd => ?_⟩
  have h4 := List.all_eq_true.1 (List.all_eq_true.1 h3 s hs) j (List.mem_range.2 (Array.getElem?_eq_some_iff.1 hj).1)
  rw [hj] at h4
  dsimp only at h4
  rw [hd] at h4
  simp only [bne_self_eq_false, Bool.false_or] at h4
  obtain ⟨e, he, hb⟩ := Array.any_eq_true'.1 h4
  simp only [Bool.and_eq_true, beq_iff_eq] at hb
  exact ⟨e, he, hb.1, hb.2⟩
theorem dst_at {N : Nat} (h : dstB ops N = true) {i : Nat} {o : Oper} (ho : ops[i]? = some o) : ∃ d, o.dst = some d ∧ d < N ∧ ∀ (j : Nat) oj, ops[j]? = some oj → oj.dst = some d → j = i := by
  have hi := (Array.getElem?_eq_some_iff.1 ho).1
  have h1 := List.all_eq_true.1 h i (List.mem_range.2 hi)
  rw [ho] at h1
  dsimp only at h1
  cases hd : o.dst with
  | none => rw [hd] at h1; cases h1
  | some d =>
    rw [hd] at h1
    simp only [Bool.and_eq_true] at h1
    refine ⟨d, rfl, of_decide_eq_true h1.1, fun j oj hj hjd => ?_⟩
    have h2 := List.all_eq_true.1 h1.2 j (List.mem_range.2 (Array.getElem?_eq_some_iff.1 hj).1)
    rw [hj] at h2
    dsimp only at h2
    rw [hjd] at h2
    simpa using h2
/-- What is ready reads what it will read. -/
theorem Has.run (hd : depB ops = true) (hh : Has ops aS listed A) {i : Nat} {o : Oper} (ho : ops[i]? = some o) (hr : ∀ e ∈ o.after, Region.binds .any e = true → lit listed e.on) : execOp A.eval o = execOp aS.eval o := by
  obtain ⟨h1, -, h3⟩ := dep_at hd ho
  refine execOp_congr o (fun cs b e => ?_) fun x hx => ?_
  · unfold plainB at h1
    rw [e] at h1
    simp at h1
  · cases x with
    | tmp s =>
      refine hh.agree s fun j oj hj hjd => ?_
      obtain ⟨e, he, hb, rfl⟩ := h3 s (List.mem_filterMap.2 ⟨.tmp s, by simpa using hx, rfl⟩) j oj hj hjd
      exact hr e he hb
    | const v => rfl
    | global g => rfl
    | func f => rfl
theorem Has.put {N : Nat} (hdst : dstB ops N = true) (hN : N ≤ aS.tmps.size) (hh : Has ops aS listed A) {i d : Nat} {o : Oper} (ho : ops[i]? = some o) (hd : o.dst = some d) (hs : listed.size = ops.size) : Has ops aS (listed.setIfInBounds i true) (A.put o.dst (aS.tmps.getD d undef)) := by
  have hi := (Array.getElem?_eq_some_iff.1 ho).1
  obtain ⟨d', hd', hlt, hu⟩ := dst_at hdst ho
  rw [hd] at hd'
  cases hd'
  have hsz := hh.size
  rw [hd]
  refine ⟨by simp [Act.put, hsz], hh.defers, fun s hw => ?_⟩
  show (A.tmps.setIfInBounds d _).getD s undef = _
  rw [Array.getD_eq_getD_getElem?]
  by_cases e : s = d
  · subst e
    rw [Array.getElem?_setIfInBounds_self_of_lt (Nat.lt_of_lt_of_le hlt (Nat.le_trans hN (Nat.le_of_eq hsz.symm)))]
    rfl
  · rw [Array.getElem?_setIfInBounds_ne (Ne.symm e), ← Array.getD_eq_getD_getElem?]
    refine hh.agree s fun j oj hj hjd => ?_
    rcases (lit_set (by omega)).1 (hw j oj hj hjd) with rfl | h
    · rw [ho] at hj
      cases hj
      rw [hd] at hjd
      cases hjd
      exact absurd rfl e
    · exact h
theorem wanted_plain {o : Oper} (h : plainB o = true) (y : Nat → Option Bool) : Region.wanted o y = true := by
  unfold plainB at h
  cases hg : o.guard with
  | none => simp [Region.wanted, hg]
  | some g => rw [hg] at h; simp at h
theorem defer_plain {o : Oper} (h : plainB o = true) : ∀ c, o.op ≠ .defer c := fun c e => by
  unfold plainB at h
  rw [e] at h
  simp at h
theorem ClosedL.set (hc : ClosedL ops listed) {i : Nat} (hi : i < listed.size) {o : Oper} (ho : ops[i]? = some o) (hr : ∀ e ∈ o.after, Region.binds .any e = true → lit listed e.on) : ClosedL ops (listed.setIfInBounds i true) := by
  intro j oj hj hoj e he hb
  rcases (lit_set hi).1 hj with rfl | h
  · rw [ho] at hoj
    cases hoj
    exact (lit_set hi).2 (.inr (hr e he hb))
  · exact (lit_set hi).2 (.inr (hc j oj h hoj e he hb))
end
/-- **A statement that draws its order: all but the last two operations read alone; the last but one hands on to a loop's body; the last one reads what came of it.** -/
theorem region_reads {P : Program} {ops : Array Oper} {Q : Exit → Act → World → Prop} {id n lr : Nat} {a aS : Act} {w : World} {c dc dl N : Nat} {oc ol : Oper} {PP : World → Prop}
    (hm : P.follows .mixedOrders = true) (hc : ops[c]? = some oc) (hl : ops[c + 1]? = some ol) (hsz : ops.size = c + 2) (hdep : depB ops = true) (hdst : dstB ops N = true) (hN : N ≤ aS.tmps.size)
    (hreach : (List.range c).all (reachB ops ops.size c) = true) (hlast : bindsTo ol c = true) (hdc : oc.dst = some dc) (hdl : ol.dst = some dl) (h0 : Has ops aS (Array.replicate ops.size false) a)
    (hval : ∀ (i : Nat) o d, i < c → ops[i]? = some o → o.dst = some d → (execOp aS.eval o).run P w.drew = .ok (.value (aS.tmps.getD d undef)) w.drew)
    {l : Nat} {fn : FuncId} {tmps : Array Value} {assign body : Code} (hrun : (execOp aS.eval oc).run P w.drew = .ok (.round l fn tmps assign body) w.drew)
    (hR : ∀ m, RoundIn Fence.wide m P l fn tmps assign body w.drew fun e W' => e = .returned (aS.tmps.getD dc undef) ∧ PP W')
    (hval2 : ∀ W', (execOp aS.eval ol).run P W' = .ok (.value (aS.tmps.getD dl undef)) W')
    (hQ : ∀ A W', A.defers = aS.defers → A.tmps.getD dl undef = aS.tmps.getD dl undef → PP W' → Q .normal A W') :
    (Code.region id ops true).wpIn (Fence.wide.inRound lr) n P Q a w := by
  refine wpIn_region_any hm ?_
  show wpAnyIn _ _ _ _ _ _ _ _ _ w.drew
  -- behind the loop's body
  have tail : ∀ (fuel : Nat) (listed : Array Bool) (A : Act) (W' : World), listed.size = ops.size → (∀ i, i < c + 1 → lit listed i) → ¬ lit listed (c + 1) → Has ops aS listed A → 1 ≤ fuel → PP W' → wpAnyIn (Fence.wide.inRound lr) n P .any ops Q fuel listed A W' := by
    intro fuel listed A W' hs hall hn hh hf hp
    obtain ⟨f, rfl⟩ : ∃ f, fuel = f + 1 := ⟨fuel - 1, by omega⟩
    obtain ⟨hpl, hon, -⟩ := dep_at hdep hl
    have hrdy : ∀ e ∈ ol.after, Region.binds .any e = true → lit listed e.on := fun e he _ => hall _ (hon e he)
    refine ⟨fun h => ?_, fun i hi => ?_⟩
    · have := ready_of hl hs hn hrdy
      rw [h] at this
      cases this
    · obtain ⟨o, ho, hni, -⟩ := ready_mem hi hs
      have hlt := (Array.getElem?_eq_some_iff.1 ho).1
      have hic : i = c + 1 := by
        rcases (show i < c + 1 ∨ i = c + 1 by omega) with h | h
        · exact absurd (hall i h) hni
        · exact h
      subst hic
      rw [hl] at ho
      cases ho
      unfold wpOpIn
      simp only [hl, wanted_plain hpl, if_true]
      refine ⟨fun _ _ => trivial, ?_⟩
      rw [Oper.semAt_eq _ _ _ (defer_plain hpl), hh.run hdep hl hrdy, hval2 W']
      have h2 := hh.put hdst hN hl hdl hs
      show wpAnyIn _ _ _ _ _ _ f _ _ _
      refine wpAnyIn_done ?_ (hQ _ _ h2.defers (h2.agree dl fun j oj hj hjd => ?_) hp) f
      · cases hr : Region.ready .any ops (listed.setIfInBounds (c + 1) true) with
        | nil => rfl
        | cons x xs =>
          obtain ⟨ox, hox, hnx, -⟩ := ready_mem (i := x) (by rw [hr]; exact List.mem_cons_self ..) (by simpa using hs)
          have hxl := (Array.getElem?_eq_some_iff.1 hox).1
          refine absurd ((lit_set (by omega)).2 ?_) hnx
          rcases (show x < c + 1 ∨ x = c + 1 by omega) with h | h
          · exact .inr (hall x h)
          · exact .inl h
      · obtain ⟨d', hd', -, hu⟩ := dst_at hdst hl
        rw [hdl] at hd'
        cases hd'
        rw [hu j oj hj hjd]
        exact (lit_set (by omega)).2 (.inl rfl)
  have key : ∀ (fuel : Nat) (listed : Array Bool) (A : Act), listed.size = ops.size → ClosedL ops listed → ¬ lit listed c → ¬ lit listed (c + 1) → Has ops aS listed A → unl ops.size listed ≤ fuel → wpAnyIn (Fence.wide.inRound lr) n P .any ops Q fuel listed A w.drew := by
    intro fuel
    induction fuel with
    | zero =>
      intro listed A hs hcl hnc hnl hh hu
      have := unl_set (n := ops.size) (i := c) (by omega) hs hnc
      omega
    | succ f ih =>
      intro listed A hs hcl hnc hnl hh hu
      refine ⟨fun h => ?_, fun i hi => ?_⟩
      · -- the first one that is not listed is ready
        exfalso
        have least : ∀ k, k ≤ c → (∀ j, j < k → lit listed j) ∨ ∃ j, j < k ∧ ¬ lit listed j ∧ ∀ q, q < j → lit listed q := by
          intro k
          induction k with
          | zero => intro _; exact .inl fun j hj => absurd hj (Nat.not_lt_zero _)
          | succ k ihk =>
            intro hk
            rcases ihk (by omega) with h | ⟨j, h1, h2, h3⟩
            · by_cases hkl : lit listed k
              · refine .inl fun j hj => ?_
                rcases (show j < k ∨ j = k by omega) with h' | rfl
                · exact h j h'
                · exact hkl
              · exact .inr ⟨k, by omega, hkl, h⟩
            · exact .inr ⟨j, by omega, h2, h3⟩
        have : ∃ j, j ≤ c ∧ ¬ lit listed j ∧ ∀ q, q < j → lit listed q := by
          rcases least c (Nat.le_refl _) with h | ⟨j, h1, h2, h3⟩
          · exact ⟨c, Nat.le_refl _, hnc, h⟩
          · exact ⟨j, by omega, h2, h3⟩
        obtain ⟨j, hj, hjn, hjl⟩ := this
        obtain ⟨o, ho⟩ : ∃ o, ops[j]? = some o := ⟨_, Array.getElem?_eq_getElem (show j < ops.size by omega)⟩
        have := ready_of ho hs hjn fun e he _ => hjl _ ((dep_at hdep ho).2.1 e he)
        rw [h] at this
        cases this
      · obtain ⟨o, ho, hni, hrdy⟩ := ready_mem hi hs
        have hlt := (Array.getElem?_eq_some_iff.1 ho).1
        obtain ⟨hpl, -, -⟩ := dep_at hdep ho
        obtain ⟨d, hd, -, -⟩ := dst_at hdst ho
        have hus := unl_set (n := ops.size) hlt hs hni
        have h2 := hh.put hdst hN ho hd hs
        unfold wpOpIn
        simp only [ho, wanted_plain hpl, if_true]
        refine ⟨fun _ _ => trivial, ?_⟩
        rw [Oper.semAt_eq _ _ _ (defer_plain hpl), hh.run hdep ho hrdy]
        rcases (show i < c ∨ i = c ∨ i = c + 1 by omega) with h | rfl | rfl
        · rw [hval i o d h ho hd]
          show wpAnyIn _ _ _ _ _ _ f _ _ _
          refine ih _ _ (by simpa using hs) (hcl.set (by omega) ho hrdy) (fun h' => ?_) (fun h' => ?_) h2 (by omega)
          · rcases (lit_set (by omega)).1 h' with e | e
            · omega
            · exact hnc e
          · rcases (lit_set (by omega)).1 h' with e | e
            · omega
            · exact hnl e
        · rw [hc] at ho
          cases ho
          rw [hdc] at hd
          cases hd
          rw [hrun, Oper.uponIn_round]
          refine ⟨fun h => (by cases h), ?_⟩
          refine RoundIn.mono (show RoundIn (Fence.wide.inRound lr) (n - 1) P l fn tmps assign body w.drew _ from hR (n - 1)) ?_
          rintro e W' ⟨rfl, hp⟩
          refine tail f _ _ W' (by simpa using hs) (fun j hj => ?_) (fun h' => ?_) h2 ?_ hp
          · rcases (show j < i ∨ j = i by omega) with h | rfl
            · exact (lit_set (by omega)).2 (.inr (reach_lit hcl ops.size i j oc hc hrdy (List.all_eq_true.1 hreach j (List.mem_range.2 h))))
            · exact (lit_set (by omega)).2 (.inl rfl)
          · rcases (lit_set (by omega)).1 h' with e | e
            · omega
            · exact hnl e
          · have := unl_set (n := ops.size) (i := i + 1) (listed := listed.setIfInBounds i true) (by omega) (by simpa using hs) (fun h' => by
              rcases (lit_set (by omega)).1 h' with e | e
              · omega
              · exact hnl e)
            omega
        · rw [hl] at ho
          cases ho
          obtain ⟨e, he, hb⟩ := Array.any_eq_true'.1 hlast
          simp only [Bool.and_eq_true, beq_iff_eq] at hb
          have := hrdy e he hb.1
          rw [hb.2] at this
          exact absurd this hnc
  refine key _ _ _ (by simp) ?_ ?_ ?_ h0 ?_
  · intro i o hi
    unfold lit at hi
    rw [Array.getD_eq_getD_getElem?, Array.getElem?_replicate] at hi
    split at hi <;> cases hi
  · unfold lit
    rw [Array.getD_eq_getD_getElem?, Array.getElem?_replicate]
    split <;> simp
  · unfold lit
    rw [Array.getD_eq_getD_getElem?, Array.getElem?_replicate]
    split <;> simp
  · unfold unl
    refine Nat.le_trans List.countP_le_length ?_
    simp
/-- A frame with some slots laid anew. -/
def over (a : Act) (vals : List (Nat × Value)) : Act := { a with tmps := vals.foldl (fun t p => t.setIfInBounds p.1 p.2) a.tmps }
def keysB (ops : Array Oper) (vals : List (Nat × Value)) : Bool := vals.all fun p => (List.range ops.size).any fun i => match ops[i]? with
  | none => false
  | some o => o.dst == some p.1
theorem fold_size (vals : List (Nat × Value)) : ∀ t : Array Value, (vals.foldl (fun t p => t.setIfInBounds p.1 p.2) t).size = t.size := by
  induction vals with
  | nil => intro t; rfl
  | cons p vals ih => intro t; rw [List.foldl_cons, ih]; simp
theorem fold_far (vals : List (Nat × Value)) {s : Nat} : ∀ t : Array Value, (∀ p ∈ vals, p.1 ≠ s) → (vals.foldl (fun t p => t.setIfInBounds p.1 p.2) t).getD s undef = t.getD s undef := by
  induction vals with
  | nil => intro t _; rfl
  | cons p vals ih =>
    intro t h
    rw [List.foldl_cons, ih _ fun q hq => h q (List.mem_cons_of_mem _ hq), Array.getD_eq_getD_getElem?, Array.getElem?_setIfInBounds_ne (h p (List.mem_cons_self ..)), ← Array.getD_eq_getD_getElem?]
theorem has_start {ops : Array Oper} {a : Act} {vals : List (Nat × Value)} (hk : keysB ops vals = true) : Has ops (over a vals) (Array.replicate ops.size false) a := by
  refine ⟨(fold_size vals a.tmps).symm, rfl, fun s hw => (fold_far vals a.tmps fun p hp e => ?_).symm⟩
  have h1 := List.all_eq_true.1 hk p hp
  obtain ⟨i, hi, h2⟩ := List.any_eq_true.1 h1
  cases ho : ops[i]? with
  | none => rw [ho] at h2; cases h2
  | some o =>
    rw [ho] at h2
    dsimp only at h2
    have hd : o.dst = some s := by rw [← e]; simpa using h2
    have := hw i o ho hd
    unfold lit at this
    rw [Array.getD_eq_getD_getElem?, Array.getElem?_replicate] at this
    split at this <;> cases this
def valV (vals : List (Nat × Value)) (s : Nat) : Value := ((vals.find? fun p => p.1 == s).map (·.2)).getD undef
/-- What is read of a frame with some slots laid anew. -/
def evalV (a : Act) (vals : List (Nat × Value)) : Operand → Value
  | .tmp t => ((vals.find? fun p => p.1 == t).map (·.2)).getD (a.tmps.getD t undef)
  | .const v => v
  | .global g => .pointer (some ⟨g, 0, none⟩)
  | .func f => .func (.func f) #[] #[]
def nodupB : List (Nat × Value) → Bool
  | [] => true
  | p :: l => l.all (fun q => q.1 != p.1) && nodupB l
theorem fold_get : ∀ (vals : List (Nat × Value)) (t : Array Value) (s : Nat), nodupB vals = true → (∀ p ∈ vals, p.1 < t.size) → (vals.foldl (fun t p => t.setIfInBounds p.1 p.2) t).getD s undef = ((vals.find? fun p => p.1 == s).map (·.2)).getD (t.getD s undef)
  | [], _, _, _, _ => rfl
  | p :: vals, t, s, hn, hs => by
    simp only [nodupB, Bool.and_eq_true] at hn
    rw [List.foldl_cons, List.find?_cons]
    by_cases e : p.1 = s
    · have e' : (p.1 == s) = true := by simp [e]
      rw [e']
      rw [fold_far vals _ fun q hq => by
        have := List.all_eq_true.1 hn.1 q hq
        simp only [bne_iff_ne] at this
        rw [← e]; exact this]
      rw [Array.getD_eq_getD_getElem?, ← e, Array.getElem?_setIfInBounds_self_of_lt (hs p (List.mem_cons_self ..))]
      rfl
    · have e' : (p.1 == s) = false := by simp [e]
      rw [e', fold_get vals _ s hn.2 fun q hq => by rw [Array.size_setIfInBounds]; exact hs q (List.mem_cons_of_mem _ hq)]
      congr 1
      rw [Array.getD_eq_getD_getElem?, Array.getElem?_setIfInBounds_ne e, ← Array.getD_eq_getD_getElem?]
theorem over_eval {a : Act} {vals : List (Nat × Value)} (hn : nodupB vals = true) (hs : ∀ p ∈ vals, p.1 < a.tmps.size) : (over a vals).eval = evalV a vals := by
  funext x
  cases x with
  | tmp t => exact fold_get vals a.tmps t hn hs
  | const v => rfl
  | global g => rfl
  | func f => rfl
theorem over_val {a : Act} {vals : List (Nat × Value)} (hn : nodupB vals = true) (hs : ∀ p ∈ vals, p.1 < a.tmps.size) {s : Nat} (hk : (vals.any fun p => p.1 == s) = true) : (over a vals).tmps.getD s undef = valV vals s := by
  refine (fold_get vals a.tmps s hn hs).trans ?_
  unfold valV
  cases hf : vals.find? (fun p => p.1 == s) with
  | some q => rfl
  | none =>
    obtain ⟨p, hp, h⟩ := List.any_eq_true.1 hk
    have := List.find?_eq_none.1 hf p hp
    exact absurd h this
def allKeysB (ops : Array Oper) (vals : List (Nat × Value)) : Bool := (List.range ops.size).all fun i => match ops[i]? with
  | none => true
  | some o => match o.dst with
    | none => false
    | some d => vals.any fun p => p.1 == d
theorem region_vals {P : Program} {ops : Array Oper} {Q : Exit → Act → World → Prop} {id n lr : Nat} {a : Act} {w : World} (c dc dl N : Nat) {oc ol : Oper} (vals : List (Nat × Value)) {PP : World → Prop} (vc vl : Value)
    (hm : P.follows .mixedOrders = true) (hc : ops[c]? = some oc) (hl : ops[c + 1]? = some ol) (hsz : ops.size = c + 2) (hdep : depB ops = true) (hdst : dstB ops N = true) (hN : N ≤ a.tmps.size)
    (hreach : (List.range c).all (reachB ops ops.size c) = true) (hlast : bindsTo ol c = true) (hdc : oc.dst = some dc) (hdl : ol.dst = some dl)
    (hk : keysB ops vals = true) (hn : nodupB vals = true) (hs : (vals.all fun p => decide (p.1 < N)) = true) (hall : allKeysB ops vals = true) (hvc : valV vals dc = vc) (hvl : valV vals dl = vl)
    (hval : ∀ (i : Nat) o d, i < c → ops[i]? = some o → o.dst = some d → (execOp (evalV a vals) o).run P w.drew = .ok (.value (valV vals d)) w.drew)
    {l : Nat} {fn : FuncId} {tmps : Array Value} {assign body : Code} (hrun : (execOp (evalV a vals) oc).run P w.drew = .ok (.round l fn tmps assign body) w.drew)
    (hR : ∀ m, RoundIn Fence.wide m P l fn tmps assign body w.drew fun e W' => e = .returned vc ∧ PP W')
    (hval2 : ∀ W', (execOp (evalV a vals) ol).run P W' = .ok (.value vl) W')
    (hQ : ∀ A W', A.defers = a.defers → A.tmps.getD dl undef = vl → PP W' → Q .normal A W') :
    (Code.region id ops true).wpIn (Fence.wide.inRound lr) n P Q a w := by
  have hs' : ∀ p ∈ vals, p.1 < a.tmps.size := fun p hp => Nat.lt_of_lt_of_le (of_decide_eq_true (List.all_eq_true.1 hs p hp)) hN
  have he := over_eval hn hs'
  have hv : ∀ (i : Nat) o d, ops[i]? = some o → o.dst = some d → (over a vals).tmps.getD d undef = valV vals d := fun i o d ho hd => by
    refine over_val hn hs' ?_
    have h1 := List.all_eq_true.1 hall i (List.mem_range.2 (Array.getElem?_eq_some_iff.1 ho).1)
    rw [ho] at h1
    dsimp only at h1
    rw [hd] at h1
    exact h1
  have ec := (hv c oc dc hc hdc).trans hvc
  have el := (hv (c + 1) ol dl hl hdl).trans hvl
  refine region_reads (aS := over a vals) (l := l) (fn := fn) (tmps := tmps) (assign := assign) (body := body) (PP := PP) hm hc hl hsz hdep hdst (by rw [show (over a vals).tmps.size = a.tmps.size from fold_size vals a.tmps]; exact hN) hreach hlast hdc hdl (has_start hk) (fun i o d hi ho hd => by rw [he, hv i o d ho hd]; exact hval i o d hi ho hd) (by rw [he]; exact hrun) (by rw [ec]; exact hR) (fun W' => by rw [he, el]; exact hval2 W') fun A W' hA h2 hp => hQ A W' hA (h2.trans el) hp
end Go.Proofs.Ytcolinjgfcjimaa
