/- The walk of SpanCalcs: it returns true at any op, and any two spans. -/
import Derived.Test.YtkgdonoilpkiiaaDoorAlive
import Derived.Test.YtkgdonoilpkiiaaDoorRefCalcS
namespace Go.Proofs.YtkgdonoilpkiiaaDoor
open Go.RowKit
attribute [local go_sem ↓] Go.wp_at_zero Go.wp_at_succ eq24 eq23 neq24 eqg24 eqg23

/-- What the document's Calc tells of any op and any two spans is what the program's tells. -/
theorem rcalc_any (op a b c d : Int) (w : World) : Calls Tryd.prog 6 #[.int .i64 op, .agg #[.int .i64 a, .int .i64 b], .agg #[.int .i64 c, .int .i64 d]] w (RetCalc (calcL op a b c d) (calcH op a b c d) (calcW op a b c d) w) := by
  unfold calcL calcH calcW
  cases h1 : noneS a b
  · cases h2 : noneS c d
    · by_cases h3 : op < 0
      · have e : calcNo op a b c d = true := by unfold calcNo; simp [h3]
        rw [if_pos e, if_pos e, if_pos e]
        exact rcalc_none op a b c d w (Or.inr (Or.inr (Or.inl ⟨h1, h2, decide_eq_true h3⟩)))
      · by_cases h4 : 3 < op
        · have e : calcNo op a b c d = true := by unfold calcNo; simp [h4]
          rw [if_pos e, if_pos e, if_pos e]
          exact rcalc_none op a b c d w (Or.inr (Or.inr (Or.inr ⟨h1, h2, decide_eq_false h3, decide_eq_true h4⟩)))
        · have e : ¬ calcNo op a b c d = true := by unfold calcNo; simp [h1, h2, h3, h4]
          rw [if_neg e, if_neg e, if_neg e]
          obtain ⟨s1, s2, s3⟩ := rcalc_same (op := op) (by omega) (by omega) h1 h2
          rw [s1, s2, s3]
          have hm : ∀ y, y ∈ ysL op c d → ¬ (op = 3 ∧ y = 0) → may op a y ∧ may op b y := fun y hy hz => okY_may (by omega) (by omega) h1 h2 ((mem_ys h2).1 ⟨hy, hz⟩)
          have hl := (ys_len op c d).2
          by_cases h5 : op = 3
          · subst h5
            have hw : hasS c d 0 = wrong0 3 c d := by unfold wrong0; simp
            cases y1 : hasS c d 1 <;> cases y2 : hasS c d (-1)
            · exact rcalc_3nn a b c d w h1 h2 _ _ (fun y hy hz => hm y hy (fun h => hz ⟨rfl, h.2⟩)) hl y1 y2 (by simp [ysL, y1, y2]) hw
            · exact rcalc_3ny a b c d w h1 h2 _ _ (fun y hy hz => hm y hy (fun h => hz ⟨rfl, h.2⟩)) hl y1 y2 (by simp [ysL, y1, y2]) hw
            · exact rcalc_3yn a b c d w h1 h2 _ _ (fun y hy hz => hm y hy (fun h => hz ⟨rfl, h.2⟩)) hl y1 y2 (by simp [ysL, y1, y2]) hw
            · exact rcalc_3yy a b c d w h1 h2 _ _ (fun y hy hz => hm y hy (fun h => hz ⟨rfl, h.2⟩)) hl y1 y2 (by simp [ysL, y1, y2]) hw
          · exact rcalc_ne3 op a b c d w h1 h2 (decide_eq_false h3) (decide_eq_false h4) _ _ hm hl (by simpa using h5) (by simp [ysL, h5]) (by unfold wrong0; simp [h5])
    · have e : calcNo op a b c d = true := by unfold calcNo; simp [h2]
      rw [if_pos e, if_pos e, if_pos e]
      exact rcalc_none op a b c d w (Or.inr (Or.inl ⟨h1, h2⟩))
  · have e : calcNo op a b c d = true := by unfold calcNo; simp [h1]
    rw [if_pos e, if_pos e, if_pos e]
    exact rcalc_none op a b c d w (Or.inl h1)

theorem hull_right (f : Nat → Int) (n : Nat) : rightS (hullL f n) (hullH f n) = true := by
  match n with
  | 0 => exact (rightS_iff 1 0).2 (Or.inl ⟨rfl, rfl⟩)
  | n + 1 => exact rightS_of _ _
theorem calc_right (op a b c d : Int) : rightS (calcL op a b c d) (calcH op a b c d) = true := by
  unfold calcL calcH
  by_cases h : calcNo op a b c d = true
  · rw [if_pos h, if_pos h]; exact (rightS_iff 1 0).2 (Or.inl ⟨rfl, rfl⟩)
  · rw [if_neg h, if_neg h]; exact hull_right _ _
theorem cbox_new (w : World) (t : TypeId) (a b : Int) : Box (w.alloc (.cells #[.int .i64 a, .int .i64 b] t)) w.heap.size a b := by
  refine ⟨?_, ?_, ?_, ?_, ?_⟩ <;> go_simp
theorem cbox_past {Y : World} {g : Nat} {a b : Int} (x : Box Y g a b) (o : Obj) : Box (Y.alloc o) g a b := x.below ((Below.refl _ _).alloc (Nat.le_refl _) o)
theorem sameB_self (a b : Int) : sameB a b a b = true := (sameB_iff a b a b).2 ⟨rfl, rfl⟩

set_option maxRecDepth 100000 in
set_option maxHeartbeats 3200000 in
theorem spancalcs_walk (op a b c d : Int) (w : World) : Calls Tryd.prog 3 #[.int .i64 op, .agg #[.int .i64 a, .int .i64 b], .agg #[.int .i64 c, .int .i64 d]] w (RetTrue w) := by
  have k1 := sameB_self (calcL op a b c d) (calcH op a b c d)
  have k2 := calc_right op a b c d
  have HB0 := Lib.hid (show Below w.heap.size w ((w.alloc (.cells #[.int .i64 a, .int .i64 b] 23)).alloc (.cells #[.int .i64 c, .int .i64 d] 23)) from ((Below.refl _ _).alloc (Nat.le_refl _) _).alloc (by simp) _)
  have B1 : Box ((w.alloc (.cells #[.int .i64 a, .int .i64 b] 23)).alloc (.cells #[.int .i64 c, .int .i64 d] 23)) w.heap.size a b := cbox_past (cbox_new w _ a b) _
  have B2 : Box ((w.alloc (.cells #[.int .i64 a, .int .i64 b] 23)).alloc (.cells #[.int .i64 c, .int .i64 d] 23)) (w.heap.size + 1) c d := by have h := cbox_new (w.alloc (.cells #[.int .i64 a, .int .i64 b] 23)) 23 c d; rw [World.size_alloc] at h; exact h
  have HB1 := Lib.hid B1
  have HB2 := Lib.hid B2
  clear B1 B2
  go_enter Tryd.func3, Tryd.ntmps3
  go_wp2_with fail
  refine (scalc_any op a b c d _).mono ?_
  rintro e w1 ⟨rfl, hb1⟩
  have H1 := Lib.hid (HB0.out.trans (hb1.mono HB0.out.size))
  have X1 := HB1.out.below hb1
  have X2 := HB2.out.below hb1
  have X3 := cbox_new w1 24 (calcL op a b c d) (calcH op a b c d)
  have X1' := Lib.hid (cbox_past X1 (.cells #[.int .i64 (calcL op a b c d), .int .i64 (calcH op a b c d)] 24))
  have X3' := Lib.hid X3
  obtain ⟨z0, p0, p1, f0, f1⟩ := X1
  obtain ⟨z1, q0, q1, g0, g1⟩ := X2
  clear X3 hb1
  go_wp2_with fail
  refine (rcalc_any op a b c d _).mono ?_
  rintro e w2 ⟨rfl, hb2⟩
  have H2 := Lib.hid ((H1.out.alloc H1.out.size (.cells #[.int .i64 (calcL op a b c d), .int .i64 (calcH op a b c d)] 24)).trans (hb2.mono (H1.out.alloc H1.out.size _).size))
  have X4' := Lib.hid (X3'.out.below hb2)
  have X5' := Lib.hid (cbox_new w2 23 (calcL op a b c d) (calcH op a b c d))
  have X6' := Lib.hid (cbox_past X4'.out (.cells #[.int .i64 (calcL op a b c d), .int .i64 (calcH op a b c d)] 23))
  clear hb2 z0 p0 p1 f0 f1 z1 q0 q1 g0 g1
  go_wp2_with fail
  refine (alive_any _).mono ?_
  rintro e w3 ⟨rfl, hb3⟩
  have H3 := Lib.hid ((H2.out.alloc H2.out.size (.cells #[.int .i64 (calcL op a b c d), .int .i64 (calcH op a b c d)] 23)).trans (hb3.mono (H2.out.alloc H2.out.size _).size))
  obtain ⟨z0, p0, p1, f0, f1⟩ := X5'.out.below hb3
  obtain ⟨z1, q0, q1, g0, g1⟩ := X6'.out.below hb3
  clear hb3
  go_wp2_with fail
  refine (right_any _ _ _).mono ?_
  rintro e w4 ⟨rfl, hb4⟩
  have H4 := Lib.hid (H3.out.trans (hb4.mono H3.out.size))
  clear hb4
  go_wp2_with fail
  go_ret
  exact ⟨rfl, H4.out⟩
end Go.Proofs.YtkgdonoilpkiiaaDoor
