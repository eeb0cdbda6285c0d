/- Put together of: SpRefBase, SpRefSets. -/
import Derived.Test.YtlddelnbjihhgaaGreatDoorSpSets
import Derived.Test.YtlddelnbjihhgaaGreatDoorRWalks
import Derived.Test.YtlddelnbjihhgaaGreatDoorHullNums
import Derived.LoopTactic
/- The contracts of the document's own span functions: Right, None, Has, Of, Meet, Leq. -/
namespace Go.Proofs.YtlddelnbjihhgaaGreatDoor.Sp
open Go.RowKit
attribute [local go_sem ↓] Go.wp_at_zero Go.wp_at_succ eq24 eq23 neq24 eqg24 eqg23

theorem boxed (w : World) (o : Obj) : Below w.heap.size w (w.alloc o) := (Below.refl _ _).alloc (Nat.le_refl _) _

set_option maxHeartbeats 800000 in
theorem rright_empty (w : World) : Calls Tryz.prog 85 #[.agg #[.int .i64 1, .int .i64 0]] w (RetBool true w) := by
  go_enter Tryz.func85, Tryz.ntmps85
  go_wp2_with fail
  go_ret
  exact ⟨rfl, boxed _ _⟩

set_option maxHeartbeats 1600000 in
theorem rright_more (l h : Int) (w : World) (hn : (l == 1) = false ∨ ((l == 1) = true ∧ (h == 0) = false)) (b : Bool)
    (hb : (inB l = false ∧ b = false) ∨ (inB l = true ∧ inB h = false ∧ b = false) ∨ (inB l = true ∧ inB h = true ∧ l ≤ h ∧ b = true) ∨ (inB l = true ∧ inB h = true ∧ decide (l ≤ h) = false ∧ b = false)) :
    Calls Tryz.prog 85 #[.agg #[.int .i64 l, .int .i64 h]] w (RetBool b w) := by
  rcases hn with n1 | ⟨n1, n2⟩ <;> rcases hb with ⟨h1, rfl⟩ | ⟨h1, h2, rfl⟩ | ⟨h1, h2, h3, rfl⟩ | ⟨h1, h2, h3, rfl⟩
  all_goals
    go_enter Tryz.func85, Tryz.ntmps85
    go_wp2_with (first | (go_at_call 91; ((with_reducible refine (rin_any _ _).mono ?_); rintro e w' ⟨rfl, rfl⟩)))
    go_ret
    exact ⟨rfl, boxed _ _⟩

theorem rright_any (l h : Int) (w : World) : Calls Tryz.prog 85 #[.agg #[.int .i64 l, .int .i64 h]] w (RetBool (rightS l h) w) := by
  by_cases e : l = 1 ∧ h = 0
  · obtain ⟨rfl, rfl⟩ := e
    rw [(rightS_iff 1 0).2 (Or.inl ⟨rfl, rfl⟩)]
    exact rright_empty w
  · refine rright_more l h w ?_ _ ?_
    · by_cases h1 : l = 1
      · exact Or.inr ⟨by simpa using h1, by simp; omega⟩
      · exact Or.inl (by simpa using h1)
    · have hr := rightS_iff l h
      cases h1 : inB l
      · left
        refine ⟨rfl, ?_⟩
        have := of_not_inB h1
        cases c : rightS l h
        · rfl
        · rw [hr] at c; omega
      · have b1 := of_inB h1
        cases h2 : inB h
        · right; left
          refine ⟨rfl, rfl, ?_⟩
          have := of_not_inB h2
          cases c : rightS l h
          · rfl
          · rw [hr] at c; omega
        · have b2 := of_inB h2
          by_cases h3 : l ≤ h
          · right; right; left
            exact ⟨rfl, rfl, h3, hr.2 (Or.inr ⟨by omega, by omega, h3⟩)⟩
          · right; right; right
            refine ⟨rfl, rfl, decide_eq_false h3, ?_⟩
            cases c : rightS l h
            · rfl
            · rw [hr] at c; omega

set_option maxHeartbeats 800000 in
theorem rnone_any (l h : Int) (w : World) : Calls Tryz.prog 51 #[.agg #[.int .i64 l, .int .i64 h]] w (RetBool (noneS l h) w) := by
  cases hr : rightS l h
  · have e : noneS l h = true := by rw [noneS_def, hr]; rfl
    rw [e]; clear e
    go_enter Tryz.func51, Tryz.ntmps51
    go_wp2_with (first | (go_at_call 85; ((with_reducible refine (rright_any _ _ _).mono ?_); rintro e w1 ⟨rfl, hb1⟩); obtain ⟨hc1, hf1⟩ := bcell hb1))
    go_ret
    exact ⟨rfl, below_trans (boxed _ _) hb1⟩
  · have e : noneS l h = decide (h < l) := by rw [noneS_def, hr]; rfl
    rw [e]; clear e
    go_enter Tryz.func51, Tryz.ntmps51
    go_wp2_with (first | (go_at_call 85; ((with_reducible refine (rright_any _ _ _).mono ?_); rintro e w1 ⟨rfl, hb1⟩); obtain ⟨hc1, hf1⟩ := bcell hb1))
    go_ret
    exact ⟨rfl, below_trans (boxed _ _) hb1⟩

set_option maxHeartbeats 800000 in
theorem rhas_any (l h n : Int) (w : World) : Calls Tryz.prog 105 #[.agg #[.int .i64 l, .int .i64 h], .int .i64 n] w (RetBool (hasS l h n) w) := by
  rw [hasS_ref]
  cases hr : noneS l h
  · by_cases h1 : l ≤ n
    · have e : (!false && (decide (l ≤ n) && decide (n ≤ h))) = decide (n ≤ h) := by simp [h1]
      rw [e]; clear e
      go_enter Tryz.func105, Tryz.ntmps105
      go_wp2_with (first | (go_at_call 51; ((with_reducible refine (rnone_any _ _ _).mono ?_); rintro e w1 ⟨rfl, hb1⟩); obtain ⟨hc1, hf1⟩ := bcell hb1))
      go_ret
      exact ⟨rfl, below_trans (boxed _ _) hb1⟩
    · have h2 : decide (l ≤ n) = false := decide_eq_false h1
      have e : (!false && (decide (l ≤ n) && decide (n ≤ h))) = false := by simp [h1]
      rw [e]; clear e h1
      go_enter Tryz.func105, Tryz.ntmps105
      go_wp2_with (first | (go_at_call 51; ((with_reducible refine (rnone_any _ _ _).mono ?_); rintro e w1 ⟨rfl, hb1⟩); obtain ⟨hc1, hf1⟩ := bcell hb1))
      go_ret
      exact ⟨rfl, below_trans (boxed _ _) hb1⟩
  · have e : (!true && (decide (l ≤ n) && decide (n ≤ h))) = false := rfl
    rw [e]; clear e
    go_enter Tryz.func105, Tryz.ntmps105
    go_wp2_with (first | (go_at_call 51; ((with_reducible refine (rnone_any _ _ _).mono ?_); rintro e w1 ⟨rfl, hb1⟩); obtain ⟨hc1, hf1⟩ := bcell hb1))
    go_ret
    exact ⟨rfl, below_trans (boxed _ _) hb1⟩

set_option maxHeartbeats 1600000 in
theorem rof_any (l h : Int) (w : World) : Calls Tryz.prog 49 #[.int .i64 l, .int .i64 h] w (RetSpan (ofL l h) (ofH l h) w) := by
  have hl : (l < -1152921504606846976 ∧ max l (-1152921504606846976) = -1152921504606846976) ∨ (-1152921504606846976 ≤ l ∧ max l (-1152921504606846976) = l) := by omega
  have hh : (1152921504606846976 < h ∧ min h 1152921504606846976 = 1152921504606846976) ∨ (h ≤ 1152921504606846976 ∧ min h 1152921504606846976 = h) := by omega
  rcases of_cases l h with ⟨c, e1, e2⟩ | ⟨c, e1, e2⟩ <;> rw [e1, e2] <;> clear e1 e2 <;> rcases hl with ⟨hl, el⟩ | ⟨hl, el⟩ <;> rcases hh with ⟨hh, eh⟩ | ⟨hh, eh⟩ <;> rw [el, eh] at c <;> (try rw [el, eh]) <;> clear el eh
  all_goals first
    | omega
    | (go_enter Tryz.func49, Tryz.ntmps49
       go_wp2_with (first | (go_at_call 50; ((with_reducible refine (rtop_any _).mono ?_); rintro e w' ⟨rfl, rfl⟩)))
       exact bodyPost_ret (v := .agg #[.int .i64 _, .int .i64 _]) (by simp [results, Tryz.results49, go_sem]; first | done | exact ⟨rfl, rfl⟩) rfl ⟨rfl, boxed _ _⟩)
end Go.Proofs.YtlddelnbjihhgaaGreatDoor.Sp

/- The contracts of the document's Meet, Leq, Hull. -/
namespace Go.Proofs.YtlddelnbjihhgaaGreatDoor.Sp
open Go.RowKit
attribute [local go_sem ↓] Go.wp_at_zero Go.wp_at_succ eq24 eq23 neq24 eqg24 eqg23

theorem rpost_span {fn : Func} {l h : Int} {w0 : World} {a : Act} {w : World} (hr : (results fn a.tmps).run Tryz.prog w = .ok (.agg #[.int .i64 l, .int .i64 h]) w) (hd : a.defers = []) (hb : Below w0.heap.size w0 w) : bodyPost Tryz.prog fn (RetSpan l h w0) .ret a w := bodyPost_ret hr hd ⟨rfl, hb⟩

/-- Boxes of the document's spans. -/
theorem rboxes_new (w : World) (a b c d x y : Int) : Boxes w (((w.alloc (.cells #[.int .i64 a, .int .i64 b] 26)).alloc (.cells #[.int .i64 c, .int .i64 d] 26)).alloc (.cells #[.int .i64 x, .int .i64 y] 26)) a b c d x y := by
  refine ⟨⟨?_, ?_, ?_, ?_, ?_⟩, ⟨?_, ?_, ?_, ?_, ?_⟩, ⟨?_, ?_, ?_, ?_, ?_⟩, ((((Below.refl _ _).alloc (Nat.le_refl _) _).alloc (by simp) _).alloc (by simp; omega) _)⟩
  all_goals go_simp
theorem Boxes.put_out {w wx : World} {a b c d x y : Int} (h : Boxes w wx a b c d x y) (x' y' : Int) : Below w.heap.size w ((wx.setCell ⟨w.heap.size + 1 + 1, 0, none⟩ (.int .i64 x')).setCell ⟨w.heap.size + 1 + 1, 1, none⟩ (.int .i64 y')) :=
  (h.2.2.2.setCell (by simp; omega) _).setCell (by simp; omega) _

theorem meet_none {a b c d : Int} (h : noneS a b = true ∨ noneS c d = true) : meetL a b c d = 1 ∧ meetH a b c d = 0 := by
  have h1 := tk_forms a b
  have h2 := tk_forms c d
  rcases h with h | h <;> have h := noneS_yes h <;> rcases meet_cases a b c d with e | e <;> omega
theorem meet_some {a b c d : Int} (h1 : noneS a b = false) (h2 : noneS c d = false) : meetL a b c d = ofL (max a c) (min b d) ∧ meetH a b c d = ofH (max a c) (min b d) := by
  have e1 := noneS_no h1
  have e2 := noneS_no h2
  unfold meetL meetH
  rw [e1.2.2.2.1, e1.2.2.2.2.1, e2.2.2.2.1, e2.2.2.2.2.1]
  exact ⟨rfl, rfl⟩

set_option maxHeartbeats 1600000 in
theorem rmeet_none (a b c d : Int) (w : World) (h : noneS a b = true ∨ (noneS a b = false ∧ noneS c d = true)) : Calls Tryz.prog 48 #[.agg #[.int .i64 a, .int .i64 b], .agg #[.int .i64 c, .int .i64 d]] w (RetSpan 1 0 w) := by
  have HX := Lib.hid (rboxes_new w a b c d 0 0)
  rcases h with h | ⟨h, h'⟩
  all_goals
    go_enter Tryz.func48, Tryz.ntmps48
    go_wp2_with (first
      | (go_at_call 51; ((with_reducible refine (rnone_any a b _).mono ?_); rintro e w1 ⟨rfl, hb1⟩); have HX1 := Lib.hid (HX.out.below hb1); obtain ⟨⟨z0, p0, p1, f0, f1⟩, ⟨z1, q0, q1, g0, g1⟩, ⟨z2, r0, r1, e0, e1⟩, -⟩ := HX1.out)
      | (go_at_call 51; ((with_reducible refine (rnone_any c d _).mono ?_); rintro e w2 ⟨rfl, hb2⟩); have HX2 := Lib.hid (HX1.out.below hb2); obtain ⟨⟨z0, p0, p1, f0, f1⟩, ⟨z1, q0, q1, g0, g1⟩, ⟨z2, r0, r1, e0, e1⟩, -⟩ := HX2.out))
    refine rpost_span ?_ rfl ?_
    · simp [results, Tryz.results48, go_sem, r0, r1]
    first | exact HX1.out.put_out _ _ | exact HX2.out.put_out _ _

set_option maxHeartbeats 1600000 in
theorem rmeet_some (a b c d lo hi : Int) (w : World) (h : noneS a b = false) (h' : noneS c d = false) (hlo : (a < c ∧ c = lo) ∨ (¬ a < c ∧ a = lo)) (hhi : (d < b ∧ d = hi) ∨ (¬ d < b ∧ b = hi)) : Calls Tryz.prog 48 #[.agg #[.int .i64 a, .int .i64 b], .agg #[.int .i64 c, .int .i64 d]] w (RetSpan (ofL lo hi) (ofH lo hi) w) := by
  have HX := Lib.hid (rboxes_new w a b c d 0 0)
  rcases hlo with ⟨t1, rfl⟩ | ⟨t1, rfl⟩ <;> rcases hhi with ⟨t2, rfl⟩ | ⟨t2, rfl⟩
  all_goals
    go_enter Tryz.func48, Tryz.ntmps48
    go_wp2_with (first
      | (go_at_call 51; ((with_reducible refine (rnone_any a b _).mono ?_); rintro e w1 ⟨rfl, hb1⟩); have HX1 := Lib.hid (HX.out.below hb1); obtain ⟨⟨z0, p0, p1, f0, f1⟩, ⟨z1, q0, q1, g0, g1⟩, ⟨z2, r0, r1, e0, e1⟩, -⟩ := HX1.out)
      | (go_at_call 51; ((with_reducible refine (rnone_any c d _).mono ?_); rintro e w2 ⟨rfl, hb2⟩); have HX2 := Lib.hid (HX1.out.below hb2); obtain ⟨⟨z0, p0, p1, f0, f1⟩, ⟨z1, q0, q1, g0, g1⟩, ⟨z2, r0, r1, e0, e1⟩, -⟩ := HX2.out)
      | (go_at_call 49; ((with_reducible refine (rof_any _ _ _).mono ?_); rintro e w3 ⟨rfl, hb3⟩); have HX3 := Lib.hid (HX2.out.below hb3); obtain ⟨⟨z0, p0, p1, f0, f1⟩, ⟨z1, q0, q1, g0, g1⟩, ⟨z2, r0, r1, e0, e1⟩, -⟩ := HX3.out))
    refine rpost_span ?_ rfl ?_
    · simp [results, Tryz.results48, go_sem, r0, r1]
    exact HX3.out.put_out _ _

theorem rmeet_any (a b c d : Int) (w : World) : Calls Tryz.prog 48 #[.agg #[.int .i64 a, .int .i64 b], .agg #[.int .i64 c, .int .i64 d]] w (RetSpan (meetL a b c d) (meetH a b c d) w) := by
  cases h : noneS a b
  · cases h' : noneS c d
    · rw [(meet_some h h').1, (meet_some h h').2]
      exact rmeet_some a b c d _ _ w h h' (by omega) (by omega)
    · rw [(meet_none (Or.inr h')).1, (meet_none (Or.inr h')).2]
      exact rmeet_none a b c d w (Or.inr ⟨h, h'⟩)
  · rw [(meet_none (Or.inl h)).1, (meet_none (Or.inl h)).2]
    exact rmeet_none a b c d w (Or.inl h)
end Go.Proofs.YtlddelnbjihhgaaGreatDoor.Sp
