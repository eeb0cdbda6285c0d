/- The contract of within: any two closed ones. -/
import Derived.Test.YtlddelnbjihhgaaGreatDoorTwo
import Derived.IntWalk
namespace Go.Proofs.YtlddelnbjihhgaaGreatDoor
open Go.RowKit Go.Shelf
attribute [local go_sem] Oper.semAt_some
attribute [local go_sem ↓] Go.wp_at_zero Go.wp_at_succ

def leB (m : Nat) (C D : Mat) : Bool := (List.range m).all fun i => (List.range m).all fun j => decide (C i j ≤ D i j)
theorem leB_iff (m : Nat) (C D : Mat) : leB m C D = true ↔ ∀ i j, i < m → j < m → C i j ≤ D i j := by
  unfold leB
  simp only [List.all_eq_true, List.mem_range, decide_eq_true_eq]
  exact ⟨fun h i j hi hj => h i hi j hj, fun h i hi j hj => h i j hi hj⟩
theorem leB_no {m : Nat} {C D : Mat} {i j : Nat} (hi : i < m) (hj : j < m) (h : D i j < C i j) : leB m C D = false := by
  cases e : leB m C D
  · rfl
  · have := (leB_iff m C D).1 e i j hi hj
    omega
/-- How much room there is; by it the lemmas of settle's rounds serve here. -/
def gap (C D : Mat) : Mat := fun i j => D i j - C i j - far i j
theorem leB_gap {m : Nat} {C D : Mat} (h : ∀ i j, i < m → j < m → -far i j ≤ gap C D i j) : leB m C D = true := (leB_iff _ _ _).2 fun i j hi hj => by
  have := h i j hi hj
  unfold gap at this
  omega

/-- The blocks of within. -/
def Withing (w : World) (a a' b b' r : Value) (W : World) : Prop := Duo W w.heap.size 32 a a' ∧ Duo W (w.heap.size + 1) 32 b b' ∧ Boxed W (w.heap.size + 1 + 1) 4 r ∧ Below w.heap.size w W
theorem Withing.below {w W W1 : World} {a a' b b' r : Value} (h : Withing w a a' b b' r W) (hb : Below W.heap.size W W1) : Withing w a a' b b' r W1 :=
  ⟨h.1.below hb, h.2.1.below hb, boxed_below h.2.2.1 hb, h.2.2.2.trans (hb.mono h.2.2.2.size)⟩
theorem Withing.drew {w W : World} {a a' b b' r : Value} (h : Withing w a a' b b' r W) : Withing w a a' b b' r W.drew := ⟨h.1, h.2.1, h.2.2.1, h.2.2.2.drew⟩
theorem withing_own {α : Type} {w : World} {a a' b b' r : Value} (B : Nat) (hB : w.heap.size ≤ B) : OwnFrom B (fun (_ : α) W => Withing w a a' b b' r W) := by
  intro s X Y row h hg hr
  have hr' : ∀ r, row = some r → ∃ o : Obj, X.heap[r]? = some o ∧ o.isCells = false := fun r e => (hr r e).2
  exact ⟨cells_own h.1 hg hr', cells_own h.2.1 hg hr', cells_own h.2.2.1 hg hr', h.2.2.2.grown hg h.2.2.2.size (fun r e => Nat.le_trans hB (hr r e).1)⟩
/-- It was found that a bound is above. -/
def Above (m : Nat) (C D : Mat) (w : World) (a a' b b' : Value) (c : Code) (W : World) : Prop := c = .ret ∧ leB m C D = false ∧ Withing w a a' b b' (.bool false) W
theorem above_own {α : Type} (m : Nat) (C D : Mat) (w : World) (a a' b b' : Value) (B : Nat) (hB : w.heap.size ≤ B) (c : Code) : OwnFrom B (fun (_ : α) W => Above m C D w a a' b b' c W) := by
  intro s X Y row h hg hr
  exact ⟨h.1, h.2.1, withing_own (α := α) B hB s X Y row h.2.2 hg hr⟩
def RetB (w : World) (b : Bool) (e : Ending) (w' : World) : Prop := e = .returned (.bool b) ∧ Below w.heap.size w w'

theorem withing_new (w : World) (a a' b b' r : Value) : Withing w a a' b b' r (((w.alloc (.cells #[a, a'] 32)).alloc (.cells #[b, b'] 32)).alloc (.cells #[r] 4)) := by
  have h1 := Duo.new (w.alloc (.cells #[a, a'] 32)) 32 b b'
  have h2 := Boxed.new ((w.alloc (.cells #[a, a'] 32)).alloc (.cells #[b, b'] 32)) 4 r
  simp only [World.size_alloc] at h1 h2
  exact ⟨((Duo.new w _ _ _).alloc _).alloc _, h1.alloc _, h2, (((Below.refl _ w).alloc (Nat.le_refl _) _).alloc (by simp) _).alloc (by simp; omega) _⟩

theorem within_leaves {w W : World} {r : Bool} {Ds : List Nat} {tmps : Array Value} (hcW : w.heap.size + 1 + 1 + 1 ≤ W.heap.size) (hM : Marks (w.heap.size + 1 + 1 + 1) Ds W) (hR : Boxed W (w.heap.size + 1 + 1) 4 (.bool r)) (hG : Below w.heap.size w W)
    (ht : tmps.getD 4 undef = .pointer (some ⟨w.heap.size + 1 + 1, 0, none⟩)) : LeavesInM Fence.wide 3 Tryz.prog Tryz.f65 tmps (RetB w r) (Ds.map mark) .returning W := by
  refine leaves_marks (B := w.heap.size + 1 + 1 + 1) Ds W hcW hM (fun W' hb => ?_)
  have hR' : Boxed W' (w.heap.size + 1 + 1) 4 (.bool r) := (hb.block _ (by omega)).trans hR
  have r0 := hR'.cell
  simp at ht
  refine ⟨.bool r, ?_, rfl, hG.trans (hb.mono (by omega))⟩
  simp [results, Tryz.results65, go_sem, ht, r0]

set_option maxRecDepth 100000 in
set_option maxHeartbeats 3200000 in
theorem within_any (m : Nat) (hm7 : m ≤ 7) (h0m : 0 < m) (C D : Mat) (g1 g2 c1 c2 base : Nat) (w : World)
    (o1 : w.ownsRow base 3 1 (.slice (some ⟨g1, 0, none⟩) (m * m) c1) (m * m) ((flatL m C).map (Value.int .i64))) (o2 : w.ownsRow base 3 1 (.slice (some ⟨g2, 0, none⟩) (m * m) c2) (m * m) ((flatL m D).map (Value.int .i64))) :
    Calls Tryz.prog 65 #[zoneV ((m : Int) - 1) (some ⟨g1, 0, none⟩) (m * m) c1, zoneV ((m : Int) - 1) (some ⟨g2, 0, none⟩) (m * m) c2] w (RetB w (leB m C D)) := by
  have O1 := Lib.hid o1
  have O2 := Lib.hid o2
  clear o1 o2
  refine (callsIn_wide (n := 3)).1 ?_
  refine callsIn_of_wp_marks Tryz.func65 rfl trivial ?_ rfl
  simp only [Tryz.ntmps65, List.size_toArray, List.length_cons, List.length_nil, Nat.reduceAdd, Nat.reduceSub, Array.replicate_succ, Array.replicate_zero, List.push_toArray, List.append_toArray, List.nil_append, List.cons_append]
  refine wpIn_wide.2 ?_
  go_wp2_with (go_at_call 68; ((with_reducible refine (cells_any _ _).mono ?_); rintro e w2 ⟨rfl, rfl⟩))
  have hI0 : Withing w (.int .i64 ((m : Int) - 1)) (.slice (some ⟨g1, 0, none⟩) (m * m) c1) (.int .i64 ((m : Int) - 1)) (.slice (some ⟨g2, 0, none⟩) (m * m) c2) (.bool false) ((((w.alloc (.cells #[.int .i64 ((m : Int) - 1), .slice (some ⟨g1, 0, none⟩) (m * m) c1] 32)).alloc (.cells #[.int .i64 ((m : Int) - 1), .slice (some ⟨g2, 0, none⟩) (m * m) c2] 32)).alloc (.cells #[.bool false] 4)).alloc (.cells #[.int .i64 ((m : Int) - 1)] 3)) := by
    have h := withing_new w (.int .i64 ((m : Int) - 1)) (.slice (some ⟨g1, 0, none⟩) (m * m) c1) (.int .i64 ((m : Int) - 1)) (.slice (some ⟨g2, 0, none⟩) (m * m) c2) (.bool false)
    exact h.below (zboxed _ _)
  have hcb := Boxed.new (((w.alloc (.cells #[.int .i64 ((m : Int) - 1), .slice (some ⟨g1, 0, none⟩) (m * m) c1] 32)).alloc (.cells #[.int .i64 ((m : Int) - 1), .slice (some ⟨g2, 0, none⟩) (m * m) c2] 32)).alloc (.cells #[.bool false] 4)) 3 (.int .i64 ((m : Int) - 1))
  simp only [World.size_alloc] at hcb
  refine (wpIn_wide (n := 3)).1 ?_
  refine wpIn_rangeFunc_ownG rfl (by omega) (gf := 93) (lb := #[.pointer (some ⟨w.heap.size + 1 + 1 + 1, 0, none⟩)]) rfl trivial (enters_of Tryz.func93 (by kernel_rfl) rfl)
    (cells_stops Fence.wide 2 trivial rfl (by omega) (w.heap.size + 1 + 1 + 1) m hm7 h0m _ (by simp) hcb.cell) cellKept_t (cellKept_b (by simp)) (Below.refl _ _) (fun _ => rfl)
    (fun pre W => Withing w (.int .i64 ((m : Int) - 1)) (.slice (some ⟨g1, 0, none⟩) (m * m) c1) (.int .i64 ((m : Int) - 1)) (.slice (some ⟨g2, 0, none⟩) (m * m) c2) (.bool false) W ∧ FitTo (gap C D) pre ∧ w.heap.size + 1 + 1 + 1 < W.heap.size)
    (fun c _ W => Above m C D w (.int .i64 ((m : Int) - 1)) (.slice (some ⟨g1, 0, none⟩) (m * m) c1) (.int .i64 ((m : Int) - 1)) (.slice (some ⟨g2, 0, none⟩) (m * m) c2) c W)
    (OwnFrom.and (withing_own _ (by simp; omega)) (fun _ _ _ _ h hg _ => ⟨h.1, Nat.lt_of_lt_of_le h.2 hg.size⟩)) (above_own m C D w _ _ _ _ _ (by simp; omega)) ⟨hI0, fitTo_nil _, by simp⟩
    (fun x => { tmps := #[zoneV ((m : Int) - 1) (some ⟨g1, 0, none⟩) (m * m) c1, zoneV ((m : Int) - 1) (some ⟨g2, 0, none⟩) (m * m) c2, .pointer (some ⟨w.heap.size, 0, none⟩), .pointer (some ⟨w.heap.size + 1, 0, none⟩), .pointer (some ⟨w.heap.size + 1 + 1, 0, none⟩), .int .i64 (x.1.1 : Int), .int .i64 (x.1.2 : Int), .pointer (some ⟨w.heap.size, 0, none⟩), .int .i64 ((m : Int) - 1), .func (.func 93) #[] #[.pointer (some ⟨w.heap.size + 1 + 1 + 1, 0, none⟩)], .int .i64 (x.1.1 : Int), .int .i64 (x.1.2 : Int), undef, undef, undef, undef, undef, undef, undef, undef, undef], defers := [] }) ?assign ?body ?done ?stop
  case assign =>
    intro l x W K hK
    gi_wp2
    exact hK
  case body =>
    rintro l pre ⟨⟨i, j⟩, hi, hj⟩ W ⟨hS, hFt, hcW⟩ hlen
    dsimp only at hi hj ⊢
    obtain ⟨B0, hB0⟩ : ∃ B0, B0 = ((((w.alloc (.cells #[.int .i64 ((m : Int) - 1), .slice (some ⟨g1, 0, none⟩) (m * m) c1] 32)).alloc (.cells #[.int .i64 ((m : Int) - 1), .slice (some ⟨g2, 0, none⟩) (m * m) c2] 32)).alloc (.cells #[.bool false] 4)).alloc (.cells #[.int .i64 ((m : Int) - 1)] 3)).heap.size := ⟨_, rfl⟩
    have HA := Lib.hid (fun (W' : World) (h : Withing w (.int .i64 ((m : Int) - 1)) (.slice (some ⟨g1, 0, none⟩) (m * m) c1) (.int .i64 ((m : Int) - 1)) (.slice (some ⟨g2, 0, none⟩) (m * m) c2) (.bool false) W') => at_own hm7 hi hj (own_kept_below O1.out h.2.2.2))
    have HB := Lib.hid (fun (W' : World) (h : Withing w (.int .i64 ((m : Int) - 1)) (.slice (some ⟨g1, 0, none⟩) (m * m) c1) (.int .i64 ((m : Int) - 1)) (.slice (some ⟨g2, 0, none⟩) (m * m) c2) (.bool false) W') => at_own hm7 hi hj (own_kept_below O2.out h.2.2.2))
    gi_wp2
    refine wpIn_held (S := (fun W' => W'.cell? ⟨w.heap.size, 0, none⟩ = some (.int .i64 ((m : Int) - 1)) ∧ W'.cell? ⟨w.heap.size, 1, none⟩ = some (.slice (some ⟨g1, 0, none⟩) (m * m) c1) ∧ W'.cell? ⟨w.heap.size + 1, 0, none⟩ = some (.int .i64 ((m : Int) - 1)) ∧ W'.cell? ⟨w.heap.size + 1, 1, none⟩ = some (.slice (some ⟨g2, 0, none⟩) (m * m) c2))) (by kernel_rfl) (by kernel_rfl) (by rintro ⟨_, _, h⟩; exact h) ⟨hS.1.cell0, hS.1.cell1, hS.2.1.cell0, hS.2.1.cell1⟩ (fun hH0 => ?_)
    simp only [List.size_toArray, List.length_cons, List.length_nil, Nat.reduceAdd, Array.replicate_succ, Array.replicate_zero, List.push_toArray, List.nil_append, List.cons_append]
    refine wpAnyH_take (i := 0) (oi := ⟨some 12, _, _, _, _, _⟩) (v := ?_) rfl (by kernel_rfl) (by kernel_rfl) (by kernel_rfl) (fun _ _ _ h => h) (Or.inl ⟨by rfl, ?_⟩) hH0 ?_
    rotate_left
    · intro w hSw
      try dsimp only at hSw
      go_simp
      try with_reducible rfl
    try simp only [Act.put, List.setIfInBounds_toArray, List.set_cons_zero, List.set_cons_succ]
    refine wpAnyH_take (i := 1) (oi := ⟨some 13, _, _, _, _, _⟩) (v := ?_) rfl (by kernel_rfl) (by kernel_rfl) (by kernel_rfl) (fun _ _ _ h => h) (Or.inl ⟨by rfl, ?_⟩) hH0 ?_
    rotate_left
    · intro w hSw
      try dsimp only at hSw
      go_simp
      try with_reducible rfl
    try simp only [Act.put, List.setIfInBounds_toArray, List.set_cons_zero, List.set_cons_succ]
    refine wpAnyH_take (i := 2) (oi := ⟨some 14, _, _, _, _, _⟩) (v := ?_) rfl (by kernel_rfl) (by kernel_rfl) (by kernel_rfl) (fun _ _ _ h => h) (Or.inl ⟨by rfl, ?_⟩) hH0 ?_
    rotate_left
    · intro w hSw
      try dsimp only at hSw
      go_simp
      try with_reducible rfl
    try simp only [Act.put, List.setIfInBounds_toArray, List.set_cons_zero, List.set_cons_succ]
    refine wpAnyH_take (i := 4) (oi := ⟨some 16, _, _, _, _, _⟩) (v := ?_) rfl (by kernel_rfl) (by kernel_rfl) (by kernel_rfl) (fun _ _ _ h => h) (Or.inl ⟨by rfl, ?_⟩) hH0 ?_
    rotate_left
    · intro w hSw
      try dsimp only at hSw
      go_simp
      try with_reducible rfl
    try simp only [Act.put, List.setIfInBounds_toArray, List.set_cons_zero, List.set_cons_succ]
    refine wpAnyH_take (i := 5) (oi := ⟨some 17, _, _, _, _, _⟩) (v := ?_) rfl (by kernel_rfl) (by kernel_rfl) (by kernel_rfl) (fun _ _ _ h => h) (Or.inl ⟨by rfl, ?_⟩) hH0 ?_
    rotate_left
    · intro w hSw
      try dsimp only at hSw
      go_simp
      try with_reducible rfl
    try simp only [Act.put, List.setIfInBounds_toArray, List.set_cons_zero, List.set_cons_succ]
    refine wpAnyH_take (i := 6) (oi := ⟨some 18, _, _, _, _, _⟩) (v := ?_) rfl (by kernel_rfl) (by kernel_rfl) (by kernel_rfl) (fun _ _ _ h => h) (Or.inl ⟨by rfl, ?_⟩) hH0 ?_
    rotate_left
    · intro w hSw
      try dsimp only at hSw
      go_simp
      try with_reducible rfl
    try simp only [Act.put, List.setIfInBounds_toArray, List.set_cons_zero, List.set_cons_succ]
    refine wpAnyH_ready (rs := [3]) (by kernel_rfl) (by simp) ?_
    refine (AllReadyH.cons (o := ⟨some 15, _, _, _, _, _⟩) rfl (fun K hK => ?_) AllReadyH.nil)
    go_simp
    refine (HA.out _ hS.drew).mono ?_
    rintro e W1 ⟨rfl, hb1⟩
    have hb1' : Below W.heap.size W W1 := ⟨hb1.os, hb1.tape, hb1.output, hb1.size, hb1.block⟩
    have hS1 := hS.below hb1'
    go_wp2_with fail
    refine hK.out _ _ (⟨hS1.1.cell0, hS1.1.cell1, hS1.2.1.cell0, hS1.2.1.cell1⟩) (fun hH1 => ?_)
    clear hK K
    try simp only [List.setIfInBounds_toArray, List.set_cons_zero, List.set_cons_succ]
    refine wpAnyH_ready (rs := [7]) (by kernel_rfl) (by simp) ?_
    refine (AllReadyH.cons (o := ⟨some 19, _, _, _, _, _⟩) rfl (fun K hK => ?_) AllReadyH.nil)
    go_simp
    refine (HB.out _ hS1).mono ?_
    rintro e W2 ⟨rfl, hb2⟩
    have hS2 := hS1.below hb2
    go_wp2_with fail
    refine hK.out _ _ (⟨hS2.1.cell0, hS2.1.cell1, hS2.2.1.cell0, hS2.2.1.cell1⟩) (fun hH2 => ?_)
    clear hK K
    try simp only [List.setIfInBounds_toArray, List.set_cons_zero, List.set_cons_succ]
    refine wpAnyH_take (i := 8) (oi := ⟨some 20, _, _, _, _, _⟩) (v := ?_) rfl (by kernel_rfl) (by kernel_rfl) (by kernel_rfl) (fun _ _ _ h => h) (Or.inl ⟨by rfl, ?_⟩) hH2 ?_
    rotate_left
    · intro w hSw
      try dsimp only at hSw
      go_simp
      try with_reducible rfl
    try simp only [Act.put, List.setIfInBounds_toArray, List.set_cons_zero, List.set_cons_succ]
    refine wpAnyH_done (by kernel_rfl) ?_ _
    have hb12 : Below W.heap.size W W2 := zthen hb1' hb2
    have r0 := hS2.2.2.1.cell
    have r1 := hS2.2.2.1.frozen
    clear hH0 hH1 hH2 hb1 hb1' hb2 HA HB hS1
    by_cases hlt : D i j < C i j
    · have hk := (keeps_below hb12 B0).trans (keeps_setCell W2 ⟨w.heap.size + 1 + 1, 0, none⟩ (.bool false) _)
      gi_wp2
      subst hB0
      exact (⟨hk, rfl, leB_no hi hj hlt, hS2.1.other (by simp <;> omega) _, hS2.2.1.other (by simp) _, hS2.2.2.1.set _, hS2.2.2.2.setCell (p := ⟨w.heap.size + 1 + 1, 0, none⟩) (by simp; omega) _⟩ : KeepsFrom _ _ _ ∧ Above m C D w _ _ _ _ .ret _)
    · have hlt' : decide (D i j < C i j) = false := decide_eq_false hlt
      gi_wp2
      subst hB0
      exact (⟨keeps_below hb12 _, kept_below hb12 hcW, hS2, fitTo_snoc (x := ⟨(i, j), hi, hj⟩) hFt (show -far i j ≤ gap C D i j by unfold gap; omega), Nat.lt_of_lt_of_le hcW hb12.size⟩ : KeepsFrom _ _ _ ∧ CellKept _ _ _ ∧ Withing _ _ _ _ _ _ _ ∧ FitTo _ _ ∧ _)
  case done =>
    rintro E ys W hD rfl ⟨hS, hFt, hcW⟩ hK
    have hle := leB_gap (fitTo_all h0m hFt)
    have r0 := hS.2.2.1.cell
    have r1 := hS.2.2.1.frozen
    have hp : Boxed (W.setCell ⟨w.heap.size + 1 + 1, 0, none⟩ (.bool true)) (w.heap.size + 1 + 1) 4 (.bool (leB m C D)) := by rw [hle]; exact hS.2.2.1.set (.bool true)
    have hM : Marks (w.heap.size + 1 + 1 + 1) [E] (W.setCell ⟨w.heap.size + 1 + 1, 0, none⟩ (.bool true)) := ((marks_nil _ _).cons (by simp at hD; omega) hK (fun D' h => by cases h)).keep (keeps_setCell _ _ _ _)
    have hb := hS.2.2.2.setCell (p := ⟨w.heap.size + 1 + 1, 0, none⟩) (by simp; omega) (.bool true)
    go_wp2_with fail
    exact within_leaves (Ds := [E]) (by simp; omega) hM hp hb rfl
  case stop =>
    rintro E c pre W hD _ ⟨rfl, hna, hS⟩ hK
    rw [hna]
    have hlt := (Array.getElem?_eq_some_iff.1 hK).1
    gi_wp2
    exact within_leaves (Ds := [E]) (by simp at hD; omega) ((marks_nil _ _).cons (by simp at hD; omega) hK (fun D' h => by cases h)) hS.2.2.1 hS.2.2.2 rfl
end Go.Proofs.YtlddelnbjihhgaaGreatDoor
