/- The contracts of the document's Meet, Leq, Hull. -/
import Derived.Test.YtimckaphmfidhaaGreatDoorSpRefBase
import Derived.Test.YtimckaphmfidhaaGreatDoorGNums
import Derived.LoopTactic
namespace Go.Proofs.YtimckaphmfidhaaGreatDoor.Sp
open Go.RowKit
attribute [local go_sem ↓] Go.wp_at_zero Go.wp_at_succ eq24 eq23 neq24 eqg24 eqg23

theorem rpost_span {fn : Func} {l h : Int} {w0 : World} {a : Act} {w : World} (hr : (results fn a.tmps).run Tryz.prog w = .ok (.agg #[.int .i64 l, .int .i64 h]) w) (hd : a.defers = []) (hb : Below w0.heap.size w0 w) : bodyPost Tryz.prog fn (RetSpan l h w0) .ret a w := bodyPost_ret hr hd ⟨rfl, hb⟩

/-- Boxes of the document's spans. -/
theorem rboxes_new (w : World) (a b c d x y : Int) : Boxes w (((w.alloc (.cells #[.int .i64 a, .int .i64 b] 78)).alloc (.cells #[.int .i64 c, .int .i64 d] 78)).alloc (.cells #[.int .i64 x, .int .i64 y] 78)) a b c d x y := by
  refine ⟨⟨?_, ?_, ?_, ?_, ?_⟩, ⟨?_, ?_, ?_, ?_, ?_⟩, ⟨?_, ?_, ?_, ?_, ?_⟩, ((((Below.refl _ _).alloc (Nat.le_refl _) _).alloc (by simp) _).alloc (by simp; omega) _)⟩
  all_goals go_simp
theorem Boxes.put_out {w wx : World} {a b c d x y : Int} (h : Boxes w wx a b c d x y) (x' y' : Int) : Below w.heap.size w ((wx.setCell ⟨w.heap.size + 1 + 1, 0, none⟩ (.int .i64 x')).setCell ⟨w.heap.size + 1 + 1, 1, none⟩ (.int .i64 y')) :=
  (h.2.2.2.setCell (by simp; omega) _).setCell (by simp; omega) _

theorem meet_none {a b c d : Int} (h : noneS a b = true ∨ noneS c d = true) : meetL a b c d = 1 ∧ meetH a b c d = 0 := by
  have h1 := tk_forms a b
  have h2 := tk_forms c d
  rcases h with h | h <;> have h := noneS_yes h <;> rcases meet_cases a b c d with e | e <;> omega
theorem meet_some {a b c d : Int} (h1 : noneS a b = false) (h2 : noneS c d = false) : meetL a b c d = ofL (max a c) (min b d) ∧ meetH a b c d = ofH (max a c) (min b d) := by
  have e1 := noneS_no h1
  have e2 := noneS_no h2
  unfold meetL meetH
  rw [e1.2.2.2.1, e1.2.2.2.2.1, e2.2.2.2.1, e2.2.2.2.2.1]
  exact ⟨rfl, rfl⟩

end Go.Proofs.YtimckaphmfidhaaGreatDoor.Sp
