/- The contract of Has at a row of no number. -/
import Derived.Test.YtcbkffpmclainaaDoorHasMore
namespace Go.Proofs.YtcbkffpmclainaaDoor
open Go.RowKit Go.Shelf
attribute [local go_sem] Oper.semAt_some
attribute [local go_sem ↓] Go.wp_at_zero Go.wp_at_succ

set_option maxRecDepth 100000 in
theorem value_nil (P : Option Addr) (n cap i : Nat) (f : Nat → Int) (w : World) (hn : n = 0) (hi : i ≤ n) :
    Calls Tryd.prog 68 #[.slice P n cap, .int .i64 (i : Int)] w fun e w' => e = .returned (.int .i64 (vof f i)) ∧ w' = w := by
  unfold vof
  obtain rfl : i = 0 := by omega
  rw [if_pos rfl]
  go_enter Tryd.func68, Tryd.ntmps68
  go_wp2_with fail
  go_ret
  exact ⟨rfl, rfl⟩
set_option maxRecDepth 100000 in
set_option maxHeartbeats 1600000 in
theorem index_nil (P : Option Addr) (n cap : Nat) (f : Nat → Int) (w : World) (hn : n = 0) :
    Calls Tryd.prog 95 #[.slice P n cap, .func (.func 67) #[] #[]] w (RetAt w (anyOut n f)) := by
  go_enter Tryd.func95, Tryd.ntmps95
  go_wp2_with fail
  go_loopg [8] n (fun g s8 wr => s8 = .int .i64 ((0 : Nat) : Int) ∧ Below w.heap.size w wr)
  case atStart => exact ⟨rfl, Below.refl _ _⟩
  case round =>
    obtain ⟨rfl, hB⟩ := hrel
    have hlt : ¬ (0 < n) := by omega
    go_wp2_with fail
    go_ret
    refine ⟨⟨_, rfl, ?_⟩, hB⟩
    rw [anyOut_no fun k hk => absurd hk (by omega)]
    rfl
set_option maxRecDepth 100000 in
set_option maxHeartbeats 1600000 in
theorem contains_nil (P : Option Addr) (n cap : Nat) (f : Nat → Int) (w : World) (hn : n = 0) :
    Calls Tryd.prog 66 #[.slice P n cap, .func (.func 67) #[] #[]] w (RetB w (anyOut n f)) := by
  have HI := Lib.hid (index_nil P n cap f w hn)
  clear hn
  generalize anyOut n f = x at *
  go_enter Tryd.func66, Tryd.ntmps66
  go_wp2_with (go_at_call 95; ((with_reducible refine HI.out.mono ?_); rintro e w1 ⟨⟨r, rfl, rfl⟩, hb1⟩))
  go_ret
  exact ⟨rfl, hb1⟩
set_option maxRecDepth 100000 in
set_option maxHeartbeats 3200000 in
theorem has_nil {w : World} {N : Int} {Az P : Option Addr} {lz cz m n cap : Nat} {f : Nat → Int} {C : Mat} (h0 : 0 < m) (h7 : m ≤ 7) (hn : n = 0) (hlen : n + 1 = m) (hin : anyOut n f = false)
    (K : ∀ W, Below w.heap.size w W → Calls Tryd.prog 11 #[zoneV N Az lz cz] W (RetC W m (some C))) :
    Calls Tryd.prog 31 #[zoneV N Az lz cz, .slice P n cap] w (RetB w (leB m (pmat (vof f)) C)) := by
  have HT := Lib.hid (hs_new w (.int .i64 N) (.slice Az lz cz) (.slice P n cap) (.bool false))
  have HB := Lib.hid HT.out.2.2.2
  have HK := Lib.hid K
  have HCon := Lib.hid (fun (X : World) (hX : Below w.heap.size w X) => contains_nil P n cap f X hn)
  have HVal := Lib.hid (fun (X : World) (hX : Below w.heap.size w X) (i : Nat) (hi : i ≤ n) => value_nil P n cap i f X hn hi)
  have HIn := Lib.hid hin
  have e1 : rlen m (some C) = m * m := rfl
  have e2 := sq_pos h0
  have e3 : ((n : Int) == (m : Int) - 1) = true := by simp; omega
  have e4 : ((n : Int) != (m : Int) - 1) = false := by simp; omega
  have e5 : decide ((n : Int) = (m : Int) - 1) = true := decide_eq_true (by omega)
  rw [HIn.out] at HCon
  clear K hin hn
  refine (callsIn_wide (n := 3)).1 ?_
  refine callsIn_of_wp_marks Tryd.func31 rfl trivial ?_ rfl
  simp only [Tryd.ntmps31, List.size_toArray, List.length_cons, List.length_nil, Nat.reduceAdd, Nat.reduceSub, Array.replicate_succ, Array.replicate_zero, List.push_toArray, List.append_toArray, List.nil_append, List.cons_append]
  refine wpIn_wide.2 ?_
  go_wp2_with (first
    | (go_at_call 11; ((with_reducible refine (HK.out _ HB.out).mono ?_); rintro e w1 ⟨A, c1, rfl, hz1, hb1⟩); have hF1 : Hs w w1 _ _ _ _ := Hs.below HT.out hb1; have y0 := hF1.1.cell0; have y1 := hF1.1.cell1; have y4 := hF1.1.frozen0; have y5 := hF1.1.frozen1)
    | (go_at_call 54; ((with_reducible refine (none_any _ _ _ _ _).mono ?_); rintro e w3 ⟨rfl, hb3⟩); have hF2 := (hF1.set (.int .i64 ((m : Int) - 1)) (.slice A (m * m) c1)).below hb3; have hZ2 := ((hz1.setCell (a := ⟨w.heap.size, 0, none⟩) (by simp; omega) (.int .i64 ((m : Int) - 1))).setCell (a := ⟨w.heap.size, 1, none⟩) (by simp; omega) (.slice A (m * m) c1)).below hb3; have p0 := hF2.1.cell0; have p1 := hF2.1.cell1; have p2 := hF2.2.1.cell; have HB2 := Lib.hid hF2.2.2.2)
    | (go_at_call 66; ((with_reducible refine (HCon.out _ HB2.out).mono ?_); rintro e w4 ⟨rfl, hb4⟩); have hF3 := hF2.below hb4; have hZ3 := hZ2.below hb4; have q0 := hF3.1.cell0; have q1 := hF3.1.cell1; have q2 := hF3.2.1.cell)
    | (go_at_call 55; ((with_reducible refine (cells_any _ _).mono ?_); rintro e w5 ⟨rfl, rfl⟩)))
  obtain ⟨g, rfl, hC, o⟩ := zres_some hZ3
  have hz3 := (Hz.below ⟨hF3, o⟩ (zboxed w4 (.cells #[.int .i64 ((m : Int) - 1)] 3)))
  obtain ⟨BB, hBB⟩ : ∃ BB, BB = (((w.alloc (.cells #[.int .i64 N, .slice Az lz cz] 27)).alloc (.cells #[.slice P n cap] 22)).alloc (.cells #[.bool false] 4)).heap.size := ⟨_, rfl⟩
  rw [← hBB] at hz3
  have HI0 := Lib.hid hz3
  have hs4 := hF3.2.2.1.lt
  have hw4 := hF3.2.2.2.size
  have hcb := Boxed.new w4 3 (.int .i64 ((m : Int) - 1))
  clear y0 y1 y4 y5 p0 p1 p2 q0 q1 q2 hF1 hF2 hF3 hZ2 hZ3 hb1 hb3 hb4 hz1 o hC hz3 hBB
  refine (wpIn_wide (n := 3)).1 ?_
  refine wpIn_rangeFunc_ownG rfl (by omega) (gf := 89) (lb := #[.pointer (some ⟨w4.heap.size, 0, none⟩)]) rfl trivial (enters_of Tryd.func89 (by kernel_rfl) rfl)
    (cells_stops Fence.wide 2 trivial rfl (by omega) (w4.heap.size) m h7 h0 _ (by simp) hcb.cell) cellKept_t (cellKept_b (by simp)) (Below.refl _ _) (fun _ => rfl)
    (fun pre W => Hz w BB m g c1 C (.slice P n cap) (.bool false) W ∧ FitTo (gap (pmat (vof f)) C) pre ∧ w4.heap.size < W.heap.size)
    (fun c _ W => Broken (leB m (pmat (vof f)) C) w (.int .i64 ((m : Int) - 1)) (.slice (some ⟨g, 0, none⟩) (m * m) c1) (.slice P n cap) c W)
    (OwnFrom.and (hz_own _ (by simp; omega)) (fun _ _ _ _ h hg _ => ⟨h.1, Nat.lt_of_lt_of_le h.2 hg.size⟩)) (broken_own (leB m (pmat (vof f)) C) w _ _ _ _ (by simp; omega)) ⟨HI0.out, fitTo_nil _, by simp⟩
    (fun x => { tmps := #[zoneV N Az lz cz, .slice P n cap, .pointer (some ⟨w.heap.size, 0, none⟩), .pointer (some ⟨w.heap.size + 1, 0, none⟩), .pointer (some ⟨w.heap.size + 1 + 1, 0, none⟩), .int .i64 (x.1.1 : Int), .int .i64 (x.1.2 : Int), .agg #[.int .i64 N, .slice Az lz cz], zoneV ((m : Int) - 1) (some ⟨g, 0, none⟩) (m * m) c1, .agg #[.int .i64 ((m : Int) - 1), .slice (some ⟨g, 0, none⟩) (m * m) c1], .bool false, .bool false, .slice P n cap, .int .i64 n, .pointer (some ⟨w.heap.size, 0, none⟩), .int .i64 ((m : Int) - 1), .bool false, .bool false, .slice P n cap, .bool false, .pointer (some ⟨w.heap.size, 0, none⟩), .int .i64 ((m : Int) - 1), .func (.func 89) #[] #[.pointer (some ⟨w4.heap.size, 0, none⟩)], .int .i64 (x.1.1 : Int), .int .i64 (x.1.2 : Int), undef, undef, undef, undef, undef, undef, undef, undef, undef, undef, undef, undef], defers := [] }) ?assign ?body ?done ?stop
  case assign =>
    intro l x W K hK
    gi_wp2
    exact hK
  case body =>
    rintro l pre ⟨⟨i, j⟩, hi, hj⟩ W ⟨hS, hFt, hcW⟩ hlen2
    dsimp only at hi hj ⊢
    obtain ⟨B0, hB0⟩ : ∃ B0, B0 = (w4.alloc (.cells #[.int .i64 ((m : Int) - 1)] 3)).heap.size := ⟨_, rfl⟩
    have bi := vof_bd HIn.out (show i ≤ n by omega)
    have bj := vof_bd HIn.out (show j ≤ n by omega)
    have hw : IntKind.i64.wrap (vof f i - vof f j) = vof f i - vof f j := IntWalk.i64_in _ (by omega)
    have HV1 := Lib.hid (HVal.out _ hS.drew.1.2.2.2 i (by omega))
    have HV2 := Lib.hid (HVal.out _ hS.drew.1.2.2.2 j (by omega))
    have HA := Lib.hid (at_own h7 hi hj hS.drew.2)
    gi_wp2
    refine wpIn_held (S := (fun W' => W'.cell? ⟨w.heap.size + 1, 0, none⟩ = some (.slice P n cap) ∧ W'.cell? ⟨w.heap.size, 0, none⟩ = some (.int .i64 ((m : Int) - 1)) ∧ W'.cell? ⟨w.heap.size, 1, none⟩ = some (.slice (some ⟨g, 0, none⟩) (m * m) c1))) (by kernel_rfl) (by kernel_rfl) (by rintro ⟨_, _, h⟩; exact h) hS.cells (fun hH0 => ?_)
    simp only [List.size_toArray, List.length_cons, List.length_nil, Nat.reduceAdd, Array.replicate_succ, Array.replicate_zero, List.push_toArray, List.nil_append, List.cons_append]
    refine wpAnyH_take (i := 0) (oi := ⟨some 25, _, _, _, _, _⟩) (v := ?_) rfl (by kernel_rfl) (by kernel_rfl) (by kernel_rfl) (fun _ _ _ h => h) (Or.inl ⟨by rfl, ?_⟩) hH0 ?_
    rotate_left
    · intro w hSw
      try dsimp only at hSw
      go_simp
      try with_reducible rfl
    try simp only [Act.put, List.setIfInBounds_toArray, List.set_cons_zero, List.set_cons_succ]
    refine wpAnyH_take (i := 1) (oi := ⟨some 26, _, _, _, _, _⟩) (v := ?_) rfl (by kernel_rfl) (by kernel_rfl) (by kernel_rfl) (fun _ _ _ h => h) (Or.inl ⟨by rfl, ?_⟩) hH0 ?_
    rotate_left
    · intro w hSw
      try dsimp only at hSw
      go_simp
      try with_reducible rfl
    try simp only [Act.put, List.setIfInBounds_toArray, List.set_cons_zero, List.set_cons_succ]
    refine wpAnyH_take (i := 3) (oi := ⟨some 28, _, _, _, _, _⟩) (v := ?_) rfl (by kernel_rfl) (by kernel_rfl) (by kernel_rfl) (fun _ _ _ h => h) (Or.inl ⟨by rfl, ?_⟩) hH0 ?_
    rotate_left
    · intro w hSw
      try dsimp only at hSw
      go_simp
      try with_reducible rfl
    try simp only [Act.put, List.setIfInBounds_toArray, List.set_cons_zero, List.set_cons_succ]
    refine wpAnyH_take (i := 4) (oi := ⟨some 29, _, _, _, _, _⟩) (v := ?_) rfl (by kernel_rfl) (by kernel_rfl) (by kernel_rfl) (fun _ _ _ h => h) (Or.inl ⟨by rfl, ?_⟩) hH0 ?_
    rotate_left
    · intro w hSw
      try dsimp only at hSw
      go_simp
      try with_reducible rfl
    try simp only [Act.put, List.setIfInBounds_toArray, List.set_cons_zero, List.set_cons_succ]
    refine wpAnyH_take (i := 7) (oi := ⟨some 32, _, _, _, _, _⟩) (v := ?_) rfl (by kernel_rfl) (by kernel_rfl) (by kernel_rfl) (fun _ _ _ h => h) (Or.inl ⟨by rfl, ?_⟩) hH0 ?_
    rotate_left
    · intro w hSw
      try dsimp only at hSw
      go_simp
      try with_reducible rfl
    try simp only [Act.put, List.setIfInBounds_toArray, List.set_cons_zero, List.set_cons_succ]
    refine wpAnyH_take (i := 8) (oi := ⟨some 33, _, _, _, _, _⟩) (v := ?_) rfl (by kernel_rfl) (by kernel_rfl) (by kernel_rfl) (fun _ _ _ h => h) (Or.inl ⟨by rfl, ?_⟩) hH0 ?_
    rotate_left
    · intro w hSw
      try dsimp only at hSw
      go_simp
      try with_reducible rfl
    try simp only [Act.put, List.setIfInBounds_toArray, List.set_cons_zero, List.set_cons_succ]
    refine wpAnyH_take (i := 9) (oi := ⟨some 34, _, _, _, _, _⟩) (v := ?_) rfl (by kernel_rfl) (by kernel_rfl) (by kernel_rfl) (fun _ _ _ h => h) (Or.inl ⟨by rfl, ?_⟩) hH0 ?_
    rotate_left
    · intro w hSw
      try dsimp only at hSw
      go_simp
      try with_reducible rfl
    try simp only [Act.put, List.setIfInBounds_toArray, List.set_cons_zero, List.set_cons_succ]
    refine wpAnyH_ready (rs := [2]) (by kernel_rfl) (by simp) ?_
    refine (AllReadyH.cons (o := ⟨some 27, _, _, _, _, _⟩) rfl (fun K hK => ?_) AllReadyH.nil)
    go_simp
    refine HV1.out.mono ?_
    rintro e w' ⟨rfl, rfl⟩
    go_wp2_with fail
    refine hK.out _ _ hS.drew.cells (fun hH1 => ?_)
    clear hK K
    try simp only [List.setIfInBounds_toArray, List.set_cons_zero, List.set_cons_succ]
    refine wpAnyH_ready (rs := [5]) (by kernel_rfl) (by simp) ?_
    refine (AllReadyH.cons (o := ⟨some 30, _, _, _, _, _⟩) rfl (fun K hK => ?_) AllReadyH.nil)
    go_simp
    refine HV2.out.mono ?_
    rintro e w' ⟨rfl, rfl⟩
    go_wp2_with fail
    refine hK.out _ _ hS.drew.cells (fun hH2 => ?_)
    clear hK K
    try simp only [List.setIfInBounds_toArray, List.set_cons_zero, List.set_cons_succ]
    refine wpAnyH_take (i := 6) (oi := ⟨some 31, _, _, _, _, _⟩) (v := ?_) rfl (by kernel_rfl) (by kernel_rfl) (by kernel_rfl) (fun _ _ _ h => h) (Or.inl ⟨by rfl, ?_⟩) hH2 ?_
    rotate_left
    · intro w hSw
      try dsimp only at hSw
      go_simp
      try with_reducible rfl
    try simp only [Act.put, List.setIfInBounds_toArray, List.set_cons_zero, List.set_cons_succ]
    refine wpAnyH_ready (rs := [10]) (by kernel_rfl) (by simp) ?_
    refine (AllReadyH.cons (o := ⟨some 35, _, _, _, _, _⟩) rfl (fun K hK => ?_) AllReadyH.nil)
    go_simp
    refine HA.out.mono ?_
    rintro e W2 ⟨rfl, hb2⟩
    have hb12 : Below W.heap.size W W2 := ⟨hb2.os, hb2.tape, hb2.output, hb2.size, hb2.block⟩
    have hS2 := hS.below hb12
    go_wp2_with fail
    refine hK.out _ _ hS2.cells (fun hH3 => ?_)
    clear hK K
    try simp only [List.setIfInBounds_toArray, List.set_cons_zero, List.set_cons_succ]
    refine wpAnyH_take (i := 11) (oi := ⟨some 36, _, _, _, _, _⟩) (v := ?_) rfl (by kernel_rfl) (by kernel_rfl) (by kernel_rfl) (fun _ _ _ h => h) (Or.inl ⟨by rfl, ?_⟩) hH3 ?_
    rotate_left
    · intro w hSw
      try dsimp only at hSw
      go_simp
      try with_reducible rfl
    try simp only [Act.put, List.setIfInBounds_toArray, List.set_cons_zero, List.set_cons_succ]
    refine wpAnyH_done (by kernel_rfl) ?_ _
    have r0 := hS2.1.2.2.1.cell
    have r1 := hS2.1.2.2.1.frozen
    clear hH0 hH1 hH2 hH3 hb2 HV1 HV2 HA
    by_cases hlt : C i j < vof f i - vof f j
    · have hk := (keeps_below hb12 B0).trans (keeps_setCell W2 ⟨w.heap.size + 1 + 1, 0, none⟩ (.bool false) _)
      gi_wp2
      subst hB0
      exact (⟨hk, rfl, leB_no (C := pmat (vof f)) hi hj (show C i j < vof f i - vof f j from hlt), hS2.1.1.other (by simp <;> omega) _, boxed_other hS2.1.2.1 (by simp) _, hS2.1.2.2.1.set _, hS2.1.2.2.2.setCell (p := ⟨w.heap.size + 1 + 1, 0, none⟩) (by simp; omega) _⟩ : KeepsFrom _ _ _ ∧ Broken _ w _ _ _ .ret _)
    · have hlt' : decide (C i j < vof f i - vof f j) = false := decide_eq_false hlt
      gi_wp2
      subst hB0
      exact (⟨keeps_below hb12 _, kept_below hb12 hcW, hS2, fitTo_snoc (x := ⟨(i, j), hi, hj⟩) hFt (show -far i j ≤ gap (pmat (vof f)) C i j by unfold gap pmat; omega), Nat.lt_of_lt_of_le hcW hb12.size⟩ : KeepsFrom _ _ _ ∧ CellKept _ _ _ ∧ Hz _ _ _ _ _ _ _ _ _ ∧ FitTo _ _ ∧ _)
  case done =>
    rintro E ys W hD rfl ⟨hS, hFt, hcW⟩ hK
    have hle := leB_gap (fitTo_all h0 hFt)
    have r0 := hS.1.2.2.1.cell
    have r1 := hS.1.2.2.1.frozen
    have hp : Boxed (W.setCell ⟨w.heap.size + 1 + 1, 0, none⟩ (.bool true)) (w.heap.size + 1 + 1) 4 (.bool (leB m (pmat (vof f)) C)) := by rw [hle]; exact hS.1.2.2.1.set (.bool true)
    have hM : Marks (w.heap.size + 1 + 1 + 1) [E] (W.setCell ⟨w.heap.size + 1 + 1, 0, none⟩ (.bool true)) := ((marks_nil _ _).cons (by simp at hD; omega) hK (fun D' h => by cases h)).keep (keeps_setCell _ _ _ _)
    have hb := hS.1.2.2.2.setCell (p := ⟨w.heap.size + 1 + 1, 0, none⟩) (by simp; omega) (.bool true)
    go_wp2_with fail
    exact has_leaves (Ds := [E]) (by simp; omega) hM hp hb rfl
  case stop =>
    rintro E c pre W hD _ ⟨rfl, hna, hS⟩ hK
    rw [hna]
    have hlt := (Array.getElem?_eq_some_iff.1 hK).1
    gi_wp2
    exact has_leaves (Ds := [E]) (by simp at hD; omega) ((marks_nil _ _).cons (by simp at hD; omega) hK (fun D' h => by cases h)) hS.2.2.1 hS.2.2.2 rfl
end Go.Proofs.YtcbkffpmclainaaDoor
