/- The walk of SpanSets: it returns true at any two spans, and any number. -/
import Derived.Test.YtfdojbeckadalaaDoorAlive
import Derived.Test.YtfdojbeckadalaaDoorRefJoin
import Derived.Test.YtfdojbeckadalaaDoorRefText
import Derived.BigRegion
namespace Go.Proofs.YtfdojbeckadalaaDoor
open Go.RowKit
attribute [local go_sem ↓] Go.wp_at_zero Go.wp_at_succ eq24 eq23 neq24 eqg24 eqg23

theorem sameB_refl (a b : Int) : sameB a b a b = true := (sameB_iff a b a b).2 ⟨rfl, rfl⟩

/-- Both spans as they came, and as they were turned into the layer's: four blocks. -/
def Quad (w wx : World) (g h : Nat) (a b c d : Int) : Prop :=
  Box wx w.heap.size a b ∧ Box wx (w.heap.size + 1) c d ∧ Box wx g a b ∧ Box wx h c d ∧ Below w.heap.size w wx
def QuadCut (w : World) (a b c d : Int) (s t : Value) (wx : World) : Prop := ∃ g h : Nat, s = .pointer (some ⟨g, 0, none⟩) ∧ t = .pointer (some ⟨h, 0, none⟩) ∧ Quad w wx g h a b c d

/-- The cells of four blocks, and the library's table, said in one row. -/
theorem keep_quad {w W w1 : World} (hb : Below W.heap.size W w1) {n m g h : Nat} {a b c d e f i j : Option Value}
    (x : Below w.heap.size w W ∧ Tabs W ∧ n < W.heap.size ∧ m < W.heap.size ∧ g < W.heap.size ∧ h < W.heap.size ∧ W.cell? ⟨n, 0, none⟩ = a ∧ W.cell? ⟨n, 1, none⟩ = b ∧ W.cell? ⟨m, 0, none⟩ = c ∧ W.cell? ⟨m, 1, none⟩ = d ∧ W.cell? ⟨g, 0, none⟩ = e ∧ W.cell? ⟨g, 1, none⟩ = f ∧ W.cell? ⟨h, 0, none⟩ = i ∧ W.cell? ⟨h, 1, none⟩ = j) :
    Below w.heap.size w w1 ∧ Tabs w1 ∧ n < w1.heap.size ∧ m < w1.heap.size ∧ g < w1.heap.size ∧ h < w1.heap.size ∧ w1.cell? ⟨n, 0, none⟩ = a ∧ w1.cell? ⟨n, 1, none⟩ = b ∧ w1.cell? ⟨m, 0, none⟩ = c ∧ w1.cell? ⟨m, 1, none⟩ = d ∧ w1.cell? ⟨g, 0, none⟩ = e ∧ w1.cell? ⟨g, 1, none⟩ = f ∧ w1.cell? ⟨h, 0, none⟩ = i ∧ w1.cell? ⟨h, 1, none⟩ = j := by
  obtain ⟨xb, x0, x1, x2, x3, x4, y1, y2, y3, y4, y5, y6, y7, y8⟩ := x
  obtain ⟨hc, -⟩ := bcell hb
  have hs := hb.size
  refine ⟨below_trans xb hb, x0.stays hb, by omega, by omega, by omega, by omega, ?_, ?_, ?_, ?_, ?_, ?_, ?_, ?_⟩
  · rw [hc _ _ x1]; exact y1
  · rw [hc _ _ x1]; exact y2
  · rw [hc _ _ x2]; exact y3
  · rw [hc _ _ x2]; exact y4
  · rw [hc _ _ x3]; exact y5
  · rw [hc _ _ x3]; exact y6
  · rw [hc _ _ x4]; exact y7
  · rw [hc _ _ x4]; exact y8

theorem sbox_here {Y : World} {t g : Nat} {a b : Int} (hg : Y.heap.size = g) : Box (Y.alloc (.cells #[.int .i64 a, .int .i64 b] t)) g a b := by subst hg; exact box_new Y t a b
theorem sbox_past {Y : World} {g : Nat} {a b : Int} (x : Box Y g a b) (o : Obj) : Box (Y.alloc o) g a b := x.below ((Below.refl _ _).alloc (Nat.le_refl _) o)
theorem sbox_drew {Y : World} {g : Nat} {a b : Int} (x : Box Y g a b) : Box Y.drew g a b := x

set_option maxRecDepth 100000 in
set_option maxHeartbeats 6400000 in
theorem sets_walk (a b c d n : Int) (w : World) (ht : Tabs w) : Calls Tryd.prog 3 #[.agg #[.int .i64 a, .int .i64 b], .agg #[.int .i64 c, .int .i64 d], .int .i64 n] w (RetTrue w) := by
  have HT := Lib.hid ht
  have k1 := sameB_refl (joinL a b c d) (joinH a b c d)
  have k2 := sameB_refl (meetL a b c d) (meetH a b c d)
  have k3 := sameB_refl (ofL a d) (ofH a d)
  clear ht
  go_enter Tryd.func3, Tryd.ntmps3
  go_upto_region 1 with fail
  go_cut [7, 8] (fun s t wx => QuadCut w a b c d s t wx)
  case first =>
    go_region
    all_goals go_wp2_with fail
    all_goals go_meet
    all_goals
      refine ⟨_, _, rfl, rfl, ?_, ?_, ?_, ?_, ?_⟩
      · refine sbox_drew ?_
        repeat (first | (refine sbox_here ?_; (simp; done)) | refine sbox_past ?_ _)
      · refine sbox_drew ?_
        repeat (first | (refine sbox_here ?_; (simp; done)) | refine sbox_past ?_ _)
      · refine sbox_drew ?_
        repeat (first | (refine sbox_here ?_; (simp; done)) | refine sbox_past ?_ _)
      · refine sbox_drew ?_
        repeat (first | (refine sbox_here ?_; (simp; done)) | refine sbox_past ?_ _)
      · repeat (first | exact Below.refl _ _ | refine Below.drew ?_ | refine Below.alloc ?_ (by simp <;> omega) _)
  case rest =>
    obtain ⟨g, h, rfl, rfl, hq⟩ := hcut
    have K0 : Hid ((fun w' => Below w.heap.size w w' ∧ Tabs w' ∧ w.heap.size < w'.heap.size ∧ w.heap.size + 1 < w'.heap.size ∧ g < w'.heap.size ∧ h < w'.heap.size ∧ w'.cell? ⟨w.heap.size, 0, none⟩ = some (.int .i64 a) ∧ w'.cell? ⟨w.heap.size, 1, none⟩ = some (.int .i64 b) ∧ w'.cell? ⟨w.heap.size + 1, 0, none⟩ = some (.int .i64 c) ∧ w'.cell? ⟨w.heap.size + 1, 1, none⟩ = some (.int .i64 d) ∧ w'.cell? ⟨g, 0, none⟩ = some (.int .i64 a) ∧ w'.cell? ⟨g, 1, none⟩ = some (.int .i64 b) ∧ w'.cell? ⟨h, 0, none⟩ = some (.int .i64 c) ∧ w'.cell? ⟨h, 1, none⟩ = some (.int .i64 d)) wc.drew) := Lib.hid ⟨hq.2.2.2.2.drew, HT.out.stays hq.2.2.2.2.drew, hq.1.1, hq.2.1.1, hq.2.2.1.1, hq.2.2.2.1.1, hq.1.2.1, hq.1.2.2.1, hq.2.1.2.1, hq.2.1.2.2.1, hq.2.2.1.2.1, hq.2.2.1.2.2.1, hq.2.2.2.1.2.1, hq.2.2.2.1.2.2.1⟩
    clear hq
    go_wp2_with fail
    go_region_held3 (fun w' => Below w.heap.size w w' ∧ Tabs w' ∧ w.heap.size < w'.heap.size ∧ w.heap.size + 1 < w'.heap.size ∧ g < w'.heap.size ∧ h < w'.heap.size ∧ w'.cell? ⟨w.heap.size, 0, none⟩ = some (.int .i64 a) ∧ w'.cell? ⟨w.heap.size, 1, none⟩ = some (.int .i64 b) ∧ w'.cell? ⟨w.heap.size + 1, 0, none⟩ = some (.int .i64 c) ∧ w'.cell? ⟨w.heap.size + 1, 1, none⟩ = some (.int .i64 d) ∧ w'.cell? ⟨g, 0, none⟩ = some (.int .i64 a) ∧ w'.cell? ⟨g, 1, none⟩ = some (.int .i64 b) ∧ w'.cell? ⟨h, 0, none⟩ = some (.int .i64 c) ∧ w'.cell? ⟨h, 1, none⟩ = some (.int .i64 d))
      (first | (exact keep_quad hb1 (by assumption)) | (exact K0.out))
      (first
        | (go_at_call 11; ((with_reducible refine (alive_any _).mono ?_); rintro e w1 ⟨rfl, hb1⟩))
        | (go_at_call 12; ((with_reducible refine (join_any _ _ _ _ _).mono ?_); rintro e w1 ⟨rfl, hb1⟩))
        | (go_at_call 13; ((with_reducible refine (rjoin_any _ _ _ _ _).mono ?_); rintro e w1 ⟨rfl, hb1⟩))
        | (go_at_call 14; ((with_reducible refine (meet_any _ _ _ _ _).mono ?_); rintro e w1 ⟨rfl, hb1⟩))
        | (go_at_call 15; ((with_reducible refine (rmeet_any _ _ _ _ _).mono ?_); rintro e w1 ⟨rfl, hb1⟩))
        | (go_at_call 16; ((with_reducible refine (leq_any _ _ _ _ _).mono ?_); rintro e w1 ⟨rfl, hb1⟩))
        | (go_at_call 17; ((with_reducible refine (rleq_any _ _ _ _ _).mono ?_); rintro e w1 ⟨rfl, hb1⟩))
        | (go_at_call 18; ((with_reducible refine (right_any _ _ _).mono ?_); rintro e w1 ⟨rfl, hb1⟩))
        | (go_at_call 19; ((with_reducible refine (rright_any _ _ _).mono ?_); rintro e w1 ⟨rfl, hb1⟩))
        | (go_at_call 20; ((with_reducible refine (has_any _ _ _ _).mono ?_); rintro e w1 ⟨rfl, hb1⟩))
        | (go_at_call 21; ((with_reducible refine (rhas_any _ _ _ _).mono ?_); rintro e w1 ⟨rfl, hb1⟩))
        | (go_at_call 22; ((with_reducible refine (stext_any _ _ _ (And.left (And.right (by assumption)))).mono ?_); rintro e w1 ⟨rfl, hb1⟩))
        | (go_at_call 23; ((with_reducible refine (rtext_any _ _ _).mono ?_); rintro e w1 ⟨rfl, hb1⟩))
        | (go_at_call 24; ((with_reducible refine (of_any _ _ _).mono ?_); rintro e w1 ⟨rfl, hb1⟩))
        | (go_at_call 25; ((with_reducible refine (rof_any _ _ _).mono ?_); rintro e w1 ⟨rfl, hb1⟩)))
    have HB := Lib.hid (show Below w.heap.size w w1 from And.left (by assumption))
    go_wp2_with fail
    go_ret
    exact ⟨rfl, HB.out⟩
end Go.Proofs.YtfdojbeckadalaaDoor
