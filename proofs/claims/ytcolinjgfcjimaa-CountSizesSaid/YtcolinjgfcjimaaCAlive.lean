/- The walk of 'alive'. -/
import Derived.Test.YtcolinjgfcjimaaCAliveMath
namespace Go.Proofs.Ytcolinjgfcjimaa
open Go.RowKit
attribute [local go_sem ↓] Go.wp_at_zero Go.wp_at_succ

theorem few_any (A : Option Addr) (m c : Nat) (w : World) : Calls Try.prog 10 #[.slice A m c] w fun e w' => e = .returned (.bool (decide (m ≤ 24))) ∧ w' = w := by
  have hd : decide ((m : Int) ≤ 24) = decide (m ≤ 24) := by simp; omega
  go_enter Try.func10, Try.ntmps10
  go_wp2_with fail
  go_ret
  exact ⟨by rw [← hd]; rfl, rfl⟩
section
variable {W : World} {own : Nat → Prop} {p : Nat}
theorem al_c_one (h : Arena W own p 60 AL) : Calls Try.prog 12 #[.pointer (some ⟨p, 0, none⟩), .int .i64 1, .int .i64 1] W (RetOne 5 true W) := by
  have := one_some (f := 1) h al_has 1
  rw [al_one] at this
  exact this
theorem al_c_depth (h : Arena W own p 60 AL) : Calls Try.prog 20 #[.pointer (some ⟨p, 0, none⟩), .int .i64 1] W (RetX 2 W) := by
  have := depth_any (f := 1) h
  rw [al_depth] at this
  exact this
theorem al_c_sat (h : Arena W own p 60 AL) : Calls Try.prog 14 #[.pointer (some ⟨p, 0, none⟩), .int .i64 1, .int .i64 1, .int .i64 3] W (RetX 2 W) :=
  (sat_any (f := 1) h 1 3).mono fun _ _ ⟨x, he, h1, _, hb⟩ => ⟨by rw [he, h1 al_below]; exact congrArg (fun n : Nat => Ending.returned (.int .i64 (n : Int))) al_sat, hb⟩
theorem al_c_size (h : Arena W own p 60 AL) : Calls Try.prog 18 #[.pointer (some ⟨p, 0, none⟩), .int .i64 1] W (RetX 2 W) :=
  (size_any (f := 1) h al_has).mono fun _ _ ⟨R, he, h1, h2, hb⟩ => ⟨by rw [he, al_size h1 h2]; rfl, hb⟩
theorem al_c_cubes (h : Arena W own p 60 AL) : Calls Try.prog 22 #[.pointer (some ⟨p, 0, none⟩), .int .i64 1, .int .i64 1] W fun e w' => ∃ g c, e = .returned (.slice (some ⟨g, 0, none⟩) 1 c) ∧ w'.ownsRow W.heap.size 51 2 (.slice (some ⟨g, 0, none⟩) 1 c) 1 [.int .u64 5, .int .u64 5] ∧ Below W.heap.size W w' := by
  refine (cubes_any (f := 1) (val := 1) h al_has).mono fun _ _ ⟨v, he, hr, hb⟩ => ?_
  rw [al_cubes] at hr
  obtain ⟨g, c, rfl⟩ := row_form (n := 0) hr
  exact ⟨g, c, he, hr, hb⟩
theorem al_c_vals (h : Arena W own p 60 AL) : Calls Try.prog 16 #[.pointer (some ⟨p, 0, none⟩), .int .i64 1] W fun e w' => ∃ g c, e = .returned (.slice (some ⟨g, 0, none⟩) 2 c) ∧ w'.ownsRow W.heap.size 3 1 (.slice (some ⟨g, 0, none⟩) 2 c) 2 [.int .i64 0, .int .i64 1] ∧ Below W.heap.size W w' := by
  refine (values_any (f := 1) h al_has).mono fun _ _ ⟨R, v, he, hr, h1, h2, _, hb⟩ => ?_
  rw [al_vals h1 h2] at hr
  obtain ⟨g, c, rfl⟩ := row_form (n := 1) hr
  exact ⟨g, c, he, hr, hb⟩
end
def Av (w : World) (p : Nat) (W : World) : Prop := ∃ own : Nat → Prop, Arena W own p 60 AL ∧ Below w.heap.size w W
theorem Av.below {w W W1 : World} {p : Nat} (h : Av w p W) (hb : Below W.heap.size W W1) : Av w p W1 := by
  obtain ⟨own, h1, h2⟩ := h
  exact ⟨own, h1.below hb, h2.trans (hb.mono h2.size)⟩
theorem al_build (w : World) : Calls Try.prog 9 #[.slice (some ⟨w.heap.size, 0, none⟩) 2 2] (w.alloc (.cells #[.int .i64 2, .int .i64 (-1), .int .i64 (-2), .int .i64 0, .int .i64 (-1), .int .i64 0] 60))
    fun e w' => ∃ p A c, e = .returned (.tuple #[.pointer (some ⟨p, 0, none⟩), .agg #[.int .i64 60, .slice A 2 c], .bool true]) ∧ Av w p w' := by
  have hk := Blk.new w 60 #[.int .i64 2, .int .i64 (-1), .int .i64 (-2), .int .i64 0, .int .i64 (-1), .int .i64 0]
  have hO : Ops (w.alloc (.cells #[.int .i64 2, .int .i64 (-1), .int .i64 (-2), .int .i64 0, .int .i64 (-1), .int .i64 0] 60)) (some ⟨w.heap.size, 0, none⟩) 2 aliveF := fun _ => by
    refine ⟨_, _, rfl, hk.lt, fun j hj => ?_⟩
    match j, hj with
    | 0, _ => exact ⟨hk.cell 0, hk.cell 1, hk.cell 2⟩
    | 1, _ => exact ⟨hk.cell 3, hk.cell 4, hk.cell 5⟩
  refine (build_any (c := 2) (by omega) _ hO).mono fun _ _ ⟨p, rb, A, c, he, hB⟩ => ?_
  rw [al_scr] at he hB
  obtain ⟨own, h1, h2, h3, -⟩ := hB
  exact ⟨p, A, c, he, own, h1, ((Below.refl w.heap.size w).alloc (Nat.le_refl _) _).trans (h3.mono (by simp))⟩
section
variable {w W : World} {p : Nat}
theorem av_one (h : Av w p W) : Calls Try.prog 12 #[.pointer (some ⟨p, 0, none⟩), .int .i64 1, .int .i64 1] W fun e w' => e = .returned (.tuple #[.int .u64 5, .bool true]) ∧ Av w p w' := by
  have ⟨own, hA, _⟩ := h
  exact (al_c_one hA).mono fun _ _ ⟨h1, hb⟩ => ⟨h1, h.below hb⟩
theorem av_depth (h : Av w p W) : Calls Try.prog 20 #[.pointer (some ⟨p, 0, none⟩), .int .i64 1] W fun e w' => e = .returned (.int .i64 2) ∧ Av w p w' ∧ Below W.heap.size W w' := by
  have ⟨own, hA, _⟩ := h
  exact (al_c_depth hA).mono fun _ _ ⟨h1, hb⟩ => ⟨h1, h.below hb, hb⟩
theorem av_sat (h : Av w p W) : Calls Try.prog 14 #[.pointer (some ⟨p, 0, none⟩), .int .i64 1, .int .i64 1, .int .i64 3] W fun e w' => e = .returned (.int .i64 2) ∧ Av w p w' ∧ Below W.heap.size W w' := by
  have ⟨own, hA, _⟩ := h
  exact (al_c_sat hA).mono fun _ _ ⟨h1, hb⟩ => ⟨h1, h.below hb, hb⟩
theorem av_size (h : Av w p W) : Calls Try.prog 18 #[.pointer (some ⟨p, 0, none⟩), .int .i64 1] W fun e w' => e = .returned (.int .i64 2) ∧ Av w p w' ∧ Below W.heap.size W w' := by
  have ⟨own, hA, _⟩ := h
  exact (al_c_size hA).mono fun _ _ ⟨h1, hb⟩ => ⟨h1, h.below hb, hb⟩
def TwoAt (g : Nat) (x y : Value) (W : World) : Prop := (g < W.heap.size ∧ W.cell? ⟨g, 0, none⟩ = some x) ∧ W.cell? ⟨g, 1, none⟩ = some y
theorem TwoAt.below {g : Nat} {x y : Value} {W W1 : World} (h : TwoAt g x y W) (hb : Below W.heap.size W W1) : TwoAt g x y W1 := ⟨⟨Nat.lt_of_lt_of_le h.1.1 hb.size, (hb.cell (p := ⟨g, 0, none⟩) h.1.1).trans h.1.2⟩, (hb.cell (p := ⟨g, 1, none⟩) h.1.1).trans h.2⟩
theorem av_cubes (h : Av w p W) : Calls Try.prog 22 #[.pointer (some ⟨p, 0, none⟩), .int .i64 1, .int .i64 1] W fun e w' => ∃ g c, e = .returned (.slice (some ⟨g, 0, none⟩) 1 c) ∧ Av w p w' ∧ TwoAt g (.int .u64 5) (.int .u64 5) w' := by
  have ⟨own, hA, _⟩ := h
  exact (al_c_cubes hA).mono fun _ _ ⟨g, c, h1, h2, hb⟩ => ⟨g, c, h1, h.below hb, ⟨(World.ownsRow.lt h2 g rfl).2, h2.cellAt 0 (by omega)⟩, h2.cellAt 1 (by omega)⟩
theorem av_vals (h : Av w p W) : Calls Try.prog 16 #[.pointer (some ⟨p, 0, none⟩), .int .i64 1] W fun e w' => ∃ g c, e = .returned (.slice (some ⟨g, 0, none⟩) 2 c) ∧ Av w p w' ∧ Below W.heap.size W w' ∧ TwoAt g (.int .i64 0) (.int .i64 1) w' := by
  have ⟨own, hA, _⟩ := h
  exact (al_c_vals hA).mono fun _ _ ⟨g, c, h1, h2, hb⟩ => ⟨g, c, h1, h.below hb, hb, ⟨(World.ownsRow.lt h2 g rfl).2, h2.cellAt 0 (by omega)⟩, h2.cellAt 1 (by omega)⟩
end
set_option maxRecDepth 100000 in
set_option maxHeartbeats 3200000 in
theorem alive_any (w : World) : Calls Try.prog 11 #[] w fun e w' => e = .returned (.bool true) ∧ Below w.heap.size w w' := by
  go_enter Try.func11, Try.ntmps11
  go_wp2_with (first
    | (go_at_call 9; ((with_reducible refine (al_build w).mono ?_); rintro e w1 ⟨p, A, c, rfl, h1⟩); have H1 := Lib.hid (h1.below ((Below.refl _ _).alloc (Nat.le_refl _) (.cells #[.int .i64 60, .slice A 2 c] 27))); clear h1)
    | (go_at_call 12; ((with_reducible refine (av_one H1.out).mono ?_); rintro e w2 ⟨rfl, h2⟩); have H2 := Lib.hid h2; clear h2)
    | (go_at_call 22; ((with_reducible refine (av_cubes H2.out).mono ?_); rintro e w3 ⟨g3, c3, rfl, h3, k3⟩); have H3 := Lib.hid h3; have K3 := Lib.hid k3; clear h3 k3)
    | (go_at_call 16; ((with_reducible refine (av_vals H3.out).mono ?_); rintro e w4 ⟨g4, c4, rfl, h4, hb4, k4⟩); have H4 := Lib.hid h4; have K4 := Lib.hid k4; have K34 := Lib.hid (K3.out.below hb4); clear h4 k4 hb4)
    | (go_at_call 14; ((with_reducible refine (av_sat H4.out).mono ?_); rintro e w5 ⟨rfl, h5, hb5⟩); have H5 := Lib.hid h5; have K45 := Lib.hid (K4.out.below hb5); obtain ⟨⟨-, c30⟩, c31⟩ := K34.out.below hb5; clear h5 hb5)
    | (go_at_call 18; ((with_reducible refine (av_size H5.out).mono ?_); rintro e w6 ⟨rfl, h6, hb6⟩); have H6 := Lib.hid h6; have K46 := Lib.hid (K45.out.below hb6); clear h6 hb6)
    | (go_at_call 20; ((with_reducible refine (av_depth H6.out).mono ?_); rintro e w7 ⟨rfl, h7, hb7⟩); have H7 := Lib.hid h7; obtain ⟨⟨-, c40⟩, c41⟩ := K46.out.below hb7; clear h7 hb7))
  all_goals go_ret
  all_goals exact ⟨rfl, H7.out.choose_spec.2⟩
end Go.Proofs.Ytcolinjgfcjimaa
