/- The contracts of corners and parts. -/
import Derived.Test.YtkgdonoilpkiiaaDoorSets
import Derived.Test.YtkgdonoilpkiiaaDoorReckon
namespace Go.Proofs.YtkgdonoilpkiiaaDoor
open Go.RowKit
attribute [local go_sem ↓] Go.wp_at_zero Go.wp_at_succ eq24 eq23 neq24 eqg24 eqg23

/-- Four numbers, in a new block. -/
def Row4 (w : World) (g : Nat) (p q r s : Int) : Prop :=
  g < w.heap.size ∧ w.cell? ⟨g, 0, none⟩ = some (.int .i64 p) ∧ w.cell? ⟨g, 1, none⟩ = some (.int .i64 q) ∧ w.cell? ⟨g, 2, none⟩ = some (.int .i64 r) ∧ w.cell? ⟨g, 3, none⟩ = some (.int .i64 s)
theorem row4_new (w : World) (t : Nat) (p q r s : Int) : Row4 (w.alloc (.cells #[.int .i64 p, .int .i64 q, .int .i64 r, .int .i64 s] t)) w.heap.size p q r s := by
  refine ⟨?_, ?_, ?_, ?_, ?_⟩ <;> go_simp
theorem Row4.below {w w' : World} {g : Nat} {p q r s : Int} (x : Row4 w g p q r s) (hb : Below w.heap.size w w') : Row4 w' g p q r s := by
  obtain ⟨h1, h2, h3, h4, h5⟩ := x
  obtain ⟨hc, -⟩ := bcell hb
  exact ⟨by have := hb.size; omega, by rw [hc _ _ h1]; exact h2, by rw [hc _ _ h1]; exact h3, by rw [hc _ _ h1]; exact h4, by rw [hc _ _ h1]; exact h5⟩

/-- A slice of n elements over four new cells is handed back. -/
def RetRow (n : Nat) (p q r s : Int) (w : World) (e : Ending) (w' : World) : Prop :=
  ∃ g : Nat, e = .returned (.slice (some ⟨g, 0, none⟩) n n) ∧ w.heap.size ≤ g ∧ Row4 w' g p q r s ∧ Below w.heap.size w w'

theorem keep_new {W : World} (o : Obj) {n : Nat} {x y z t : Option Value} (h : n + 1 < W.drew.heap.size ∧ W.drew.cell? ⟨n, 0, none⟩ = x ∧ W.drew.cell? ⟨n, 1, none⟩ = y ∧ W.drew.cell? ⟨n + 1, 0, none⟩ = z ∧ W.drew.cell? ⟨n + 1, 1, none⟩ = t) :
    n + 1 < (W.alloc o).drew.heap.size ∧ (W.alloc o).drew.cell? ⟨n, 0, none⟩ = x ∧ (W.alloc o).drew.cell? ⟨n, 1, none⟩ = y ∧ (W.alloc o).drew.cell? ⟨n + 1, 0, none⟩ = z ∧ (W.alloc o).drew.cell? ⟨n + 1, 1, none⟩ = t :=
  keep_two (W := W) (((Below.refl _ _).alloc (Nat.le_refl _) o).drew) h

set_option maxHeartbeats 1600000 in
theorem corners_none (op a b c d : Int) (w : World) (hn : sameB c d 1 0 = true) : Calls Tryd.prog 14 #[.int .i64 op, .agg #[.int .i64 a, .int .i64 b], .agg #[.int .i64 c, .int .i64 d]] w fun e w' => e = .returned (.slice none 0 0) ∧ Below w.heap.size w w' := by
  go_enter Tryd.func14, Tryd.ntmps14
  go_wp2_with fail
  go_region_held3 (fun w' => w.heap.size + 1 < w'.heap.size ∧ w'.cell? ⟨w.heap.size, 0, none⟩ = some (.int .i64 a) ∧ w'.cell? ⟨w.heap.size, 1, none⟩ = some (.int .i64 b) ∧ w'.cell? ⟨w.heap.size + 1, 0, none⟩ = some (.int .i64 c) ∧ w'.cell? ⟨w.heap.size + 1, 1, none⟩ = some (.int .i64 d)) (first | (exact keep_two hb1 (by assumption)) | go_keep)
    (first | (go_at_call 9; ((with_reducible refine (empty_any _).mono ?_); rintro e w1 ⟨rfl, hb1⟩)))
  go_wp2_with fail
  go_ret
  exact ⟨rfl, below_trans ((((Below.refl _ _).alloc (Nat.le_refl _) _).alloc (by simp) _).drew) hb1⟩

set_option maxHeartbeats 3200000 in
theorem corners_some (op a b c d : Int) (w : World) (hn : sameB c d 1 0 = false) (m1 : may op a c) (m2 : may op a d) (m3 : may op b c) (m4 : may op b d) : Calls Tryd.prog 14 #[.int .i64 op, .agg #[.int .i64 a, .int .i64 b], .agg #[.int .i64 c, .int .i64 d]] w
    (RetRow 4 (cut (opR op a c)) (cut (opR op a d)) (cut (opR op b c)) (cut (opR op b d)) w) := by
  have H1 := Lib.hid (fun w => reckon_any op a c w m1)
  have H2 := Lib.hid (fun w => reckon_any op a d w m2)
  have H3 := Lib.hid (fun w => reckon_any op b c w m3)
  have H4 := Lib.hid (fun w => reckon_any op b d w m4)
  clear m1 m2 m3 m4
  go_enter Tryd.func14, Tryd.ntmps14
  go_wp2_with fail
  go_region_held3 (fun w' => w.heap.size + 1 < w'.heap.size ∧ w'.cell? ⟨w.heap.size, 0, none⟩ = some (.int .i64 a) ∧ w'.cell? ⟨w.heap.size, 1, none⟩ = some (.int .i64 b) ∧ w'.cell? ⟨w.heap.size + 1, 0, none⟩ = some (.int .i64 c) ∧ w'.cell? ⟨w.heap.size + 1, 1, none⟩ = some (.int .i64 d)) (first | (exact keep_two hb1 (by assumption)) | go_keep)
    (first | (go_at_call 9; ((with_reducible refine (empty_any _).mono ?_); rintro e w1 ⟨rfl, hb1⟩)))
  have HB := Lib.hid (below_trans ((((Below.refl _ _).alloc (Nat.le_refl _) _).alloc (by simp) _).drew) hb1)
  clear hb1
  go_wp2_with fail
  go_region_held3 (fun w' => w.heap.size + 1 < w'.heap.size ∧ w'.cell? ⟨w.heap.size, 0, none⟩ = some (.int .i64 a) ∧ w'.cell? ⟨w.heap.size, 1, none⟩ = some (.int .i64 b) ∧ w'.cell? ⟨w.heap.size + 1, 0, none⟩ = some (.int .i64 c) ∧ w'.cell? ⟨w.heap.size + 1, 1, none⟩ = some (.int .i64 d)) (first | assumption | (exact keep_new _ (by assumption)) | go_keep)
    (first
      | (go_at_call 29; ((with_reducible refine (H1.out _).mono ?_); rintro e w' ⟨rfl, rfl⟩))
      | (go_at_call 29; ((with_reducible refine (H2.out _).mono ?_); rintro e w' ⟨rfl, rfl⟩))
      | (go_at_call 29; ((with_reducible refine (H3.out _).mono ?_); rintro e w' ⟨rfl, rfl⟩))
      | (go_at_call 29; ((with_reducible refine (H4.out _).mono ?_); rintro e w' ⟨rfl, rfl⟩)))
  go_wp2_with fail
  go_ret
  exact ⟨_, rfl, HB.out.size, row4_new _ _ _ _ _ _, (below_trans HB.out ((Below.refl _ _).alloc (Nat.le_refl _) _)).drew⟩

theorem keep_one {W w1 : World} (hb : Below W.heap.size W w1) {n : Nat} {x y : Option Value} (h : n < W.heap.size ∧ W.cell? ⟨n, 0, none⟩ = x ∧ W.cell? ⟨n, 1, none⟩ = y) : n < w1.heap.size ∧ w1.cell? ⟨n, 0, none⟩ = x ∧ w1.cell? ⟨n, 1, none⟩ = y := by
  obtain ⟨h0, h1, h2⟩ := h
  obtain ⟨hc, -⟩ := bcell hb
  exact ⟨by have := hb.size; omega, by rw [hc _ _ h0]; exact h1, by rw [hc _ _ h0]; exact h2⟩
theorem keep_fresh {W : World} (o : Obj) {n : Nat} {x y : Option Value} (h : n < W.heap.size ∧ W.cell? ⟨n, 0, none⟩ = x ∧ W.cell? ⟨n, 1, none⟩ = y) : n < (W.alloc o).heap.size ∧ (W.alloc o).cell? ⟨n, 0, none⟩ = x ∧ (W.alloc o).cell? ⟨n, 1, none⟩ = y :=
  keep_one ((Below.refl _ _).alloc (Nat.le_refl _) o) h

theorem of_neg (w : World) : Calls Tryd.prog 26 #[.int .i64 (-1152921504606846976), .int .i64 (-1)] w (RetSpan (-1152921504606846976) (-1) w) := of_any (-1152921504606846976) (-1) w
theorem of_pos (w : World) : Calls Tryd.prog 26 #[.int .i64 1, .int .i64 1152921504606846976] w (RetSpan 1 1152921504606846976 w) := of_any 1 1152921504606846976 w

/-- A slice of one span is handed back. -/
def RetOne (c d : Int) (w : World) (e : Ending) (w' : World) : Prop :=
  ∃ g : Nat, e = .returned (.slice (some ⟨g, 0, none⟩) 1 1) ∧ g < w'.heap.size ∧ w'.cell? ⟨g, 0, none⟩ = some (.int .i64 c) ∧ w'.cell? ⟨g, 1, none⟩ = some (.int .i64 d) ∧ Below w.heap.size w w'

set_option maxHeartbeats 800000 in
theorem parts_one (op c d : Int) (w : World) (h : (op == 3) = false) : Calls Tryd.prog 13 #[.int .i64 op, .agg #[.int .i64 c, .int .i64 d]] w (RetOne c d w) := by
  go_enter Tryd.func13, Tryd.ntmps13
  go_wp2_with fail
  go_ret
  refine ⟨_, rfl, ?_, ?_, ?_, (((Below.refl _ _).alloc (Nat.le_refl _) _).alloc (by simp) _)⟩ <;> go_simp

set_option maxHeartbeats 3200000 in
theorem parts_two (c d : Int) (w : World) : Calls Tryd.prog 13 #[.int .i64 3, .agg #[.int .i64 c, .int .i64 d]] w
    (RetRow 2 (meetL c d (-1152921504606846976) (-1)) (meetH c d (-1152921504606846976) (-1)) (meetL c d 1 1152921504606846976) (meetH c d 1 1152921504606846976) w) := by
  have HB := Lib.hid (show Below w.heap.size w (w.alloc (.cells #[.int .i64 c, .int .i64 d] 24)).drew from ((Below.refl _ _).alloc (Nat.le_refl _) _).drew)
  go_enter Tryd.func13, Tryd.ntmps13
  go_wp2_with fail
  go_region_held3 (fun w' => w.heap.size < w'.heap.size ∧ w'.cell? ⟨w.heap.size, 0, none⟩ = some (.int .i64 c) ∧ w'.cell? ⟨w.heap.size, 1, none⟩ = some (.int .i64 d)) (first | (exact keep_one hb1 (by assumption)) | (exact keep_fresh _ (by assumption)) | go_keep)
    (first
      | (go_at_call 26; ((with_reducible refine (of_neg _).mono ?_); rintro e w1 ⟨rfl, hb1⟩))
      | (go_at_call 26; ((with_reducible refine (of_pos _).mono ?_); rintro e w1 ⟨rfl, hb1⟩))
      | (go_at_call 28; ((with_reducible refine (meet_any _ _ _ _ _).mono ?_); rintro e w1 ⟨rfl, hb1⟩)))
  have HC := Lib.hid (show Below w.heap.size w w1 from below_trans HB.out (below_trans (by assumption) (below_trans (by assumption) (below_trans (by assumption) hb1))))
  go_wp2_with fail
  go_ret
  exact ⟨_, rfl, HC.out.size, row4_new _ _ _ _ _ _, below_trans HC.out ((Below.refl _ _).alloc (Nat.le_refl _) _)⟩
end Go.Proofs.YtkgdonoilpkiiaaDoor
