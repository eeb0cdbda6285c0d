/- The contracts of the document's Meet, Leq, Hull. -/
import Derived.Test.YtfdojbeckadalaaDoorRefBase
import Derived.Test.YtfdojbeckadalaaDoorHullNums
import Derived.LoopTactic
namespace Go.Proofs.YtfdojbeckadalaaDoor
open Go.RowKit
attribute [local go_sem ↓] Go.wp_at_zero Go.wp_at_succ eq24 eq23 neq24 eqg24 eqg23

theorem rpost_span {fn : Func} {l h : Int} {w0 : World} {a : Act} {w : World} (hr : (results fn a.tmps).run Tryd.prog w = .ok (.agg #[.int .i64 l, .int .i64 h]) w) (hd : a.defers = []) (hb : Below w0.heap.size w0 w) : bodyPost Tryd.prog fn (RetSpan l h w0) .ret a w := bodyPost_ret hr hd ⟨rfl, hb⟩

/-- Boxes of the document's spans. -/
theorem rboxes_new (w : World) (a b c d x y : Int) : Boxes w (((w.alloc (.cells #[.int .i64 a, .int .i64 b] 23)).alloc (.cells #[.int .i64 c, .int .i64 d] 23)).alloc (.cells #[.int .i64 x, .int .i64 y] 23)) a b c d x y := by
  refine ⟨⟨?_, ?_, ?_, ?_, ?_⟩, ⟨?_, ?_, ?_, ?_, ?_⟩, ⟨?_, ?_, ?_, ?_, ?_⟩, ((((Below.refl _ _).alloc (Nat.le_refl _) _).alloc (by simp) _).alloc (by simp; omega) _)⟩
  all_goals go_simp
theorem Boxes.put_out {w wx : World} {a b c d x y : Int} (h : Boxes w wx a b c d x y) (x' y' : Int) : Below w.heap.size w ((wx.setCell ⟨w.heap.size + 1 + 1, 0, none⟩ (.int .i64 x')).setCell ⟨w.heap.size + 1 + 1, 1, none⟩ (.int .i64 y')) :=
  (h.2.2.2.setCell (by simp; omega) _).setCell (by simp; omega) _

theorem meet_none {a b c d : Int} (h : noneS a b = true ∨ noneS c d = true) : meetL a b c d = 1 ∧ meetH a b c d = 0 := by
  have h1 := tk_forms a b
  have h2 := tk_forms c d
  rcases h with h | h <;> have h := noneS_yes h <;> rcases meet_cases a b c d with e | e <;> omega
theorem meet_some {a b c d : Int} (h1 : noneS a b = false) (h2 : noneS c d = false) : meetL a b c d = ofL (max a c) (min b d) ∧ meetH a b c d = ofH (max a c) (min b d) := by
  have e1 := noneS_no h1
  have e2 := noneS_no h2
  unfold meetL meetH
  rw [e1.2.2.2.1, e1.2.2.2.2.1, e2.2.2.2.1, e2.2.2.2.2.1]
  exact ⟨rfl, rfl⟩

set_option maxHeartbeats 1600000 in
theorem rmeet_none (a b c d : Int) (w : World) (h : noneS a b = true ∨ (noneS a b = false ∧ noneS c d = true)) : Calls Tryd.prog 15 #[.agg #[.int .i64 a, .int .i64 b], .agg #[.int .i64 c, .int .i64 d]] w (RetSpan 1 0 w) := by
  have HX := Lib.hid (rboxes_new w a b c d 0 0)
  rcases h with h | ⟨h, h'⟩
  all_goals
    go_enter Tryd.func15, Tryd.ntmps15
    go_wp2_with (first
      | (go_at_call 39; ((with_reducible refine (rnone_any a b _).mono ?_); rintro e w1 ⟨rfl, hb1⟩); have HX1 := Lib.hid (HX.out.below hb1); obtain ⟨⟨z0, p0, p1, f0, f1⟩, ⟨z1, q0, q1, g0, g1⟩, ⟨z2, r0, r1, e0, e1⟩, -⟩ := HX1.out)
      | (go_at_call 39; ((with_reducible refine (rnone_any c d _).mono ?_); rintro e w2 ⟨rfl, hb2⟩); have HX2 := Lib.hid (HX1.out.below hb2); obtain ⟨⟨z0, p0, p1, f0, f1⟩, ⟨z1, q0, q1, g0, g1⟩, ⟨z2, r0, r1, e0, e1⟩, -⟩ := HX2.out))
    refine rpost_span ?_ rfl ?_
    · simp [results, Tryd.results15, go_sem, r0, r1]
    first | exact HX1.out.put_out _ _ | exact HX2.out.put_out _ _

set_option maxHeartbeats 1600000 in
theorem rmeet_some (a b c d lo hi : Int) (w : World) (h : noneS a b = false) (h' : noneS c d = false) (hlo : (a < c ∧ c = lo) ∨ (¬ a < c ∧ a = lo)) (hhi : (d < b ∧ d = hi) ∨ (¬ d < b ∧ b = hi)) : Calls Tryd.prog 15 #[.agg #[.int .i64 a, .int .i64 b], .agg #[.int .i64 c, .int .i64 d]] w (RetSpan (ofL lo hi) (ofH lo hi) w) := by
  have HX := Lib.hid (rboxes_new w a b c d 0 0)
  rcases hlo with ⟨t1, rfl⟩ | ⟨t1, rfl⟩ <;> rcases hhi with ⟨t2, rfl⟩ | ⟨t2, rfl⟩
  all_goals
    go_enter Tryd.func15, Tryd.ntmps15
    go_wp2_with (first
      | (go_at_call 39; ((with_reducible refine (rnone_any a b _).mono ?_); rintro e w1 ⟨rfl, hb1⟩); have HX1 := Lib.hid (HX.out.below hb1); obtain ⟨⟨z0, p0, p1, f0, f1⟩, ⟨z1, q0, q1, g0, g1⟩, ⟨z2, r0, r1, e0, e1⟩, -⟩ := HX1.out)
      | (go_at_call 39; ((with_reducible refine (rnone_any c d _).mono ?_); rintro e w2 ⟨rfl, hb2⟩); have HX2 := Lib.hid (HX1.out.below hb2); obtain ⟨⟨z0, p0, p1, f0, f1⟩, ⟨z1, q0, q1, g0, g1⟩, ⟨z2, r0, r1, e0, e1⟩, -⟩ := HX2.out)
      | (go_at_call 25; ((with_reducible refine (rof_any _ _ _).mono ?_); rintro e w3 ⟨rfl, hb3⟩); have HX3 := Lib.hid (HX2.out.below hb3); obtain ⟨⟨z0, p0, p1, f0, f1⟩, ⟨z1, q0, q1, g0, g1⟩, ⟨z2, r0, r1, e0, e1⟩, -⟩ := HX3.out))
    refine rpost_span ?_ rfl ?_
    · simp [results, Tryd.results15, go_sem, r0, r1]
    exact HX3.out.put_out _ _

theorem rmeet_any (a b c d : Int) (w : World) : Calls Tryd.prog 15 #[.agg #[.int .i64 a, .int .i64 b], .agg #[.int .i64 c, .int .i64 d]] w (RetSpan (meetL a b c d) (meetH a b c d) w) := by
  cases h : noneS a b
  · cases h' : noneS c d
    · rw [(meet_some h h').1, (meet_some h h').2]
      exact rmeet_some a b c d _ _ w h h' (by omega) (by omega)
    · rw [(meet_none (Or.inr h')).1, (meet_none (Or.inr h')).2]
      exact rmeet_none a b c d w (Or.inr ⟨h, h'⟩)
  · rw [(meet_none (Or.inl h)).1, (meet_none (Or.inl h)).2]
    exact rmeet_none a b c d w (Or.inl h)
end Go.Proofs.YtfdojbeckadalaaDoor
