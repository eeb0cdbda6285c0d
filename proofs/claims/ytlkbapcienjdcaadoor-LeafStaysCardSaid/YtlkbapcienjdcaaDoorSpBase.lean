/- The contracts of the span layer's least functions: Empty, Full, Of, Right, taken, Has. -/
import Derived.Test.YtlkbapcienjdcaaDoorProg
import Derived.Test.YtlkbapcienjdcaaDoorGNums
import Derived.Test.YtlkbapcienjdcaaDoorSame
import Derived.WalkKit
import Derived.WalkSpells
import Derived.Outline
import Derived.Lib.Hide
import Derived.Below
import Derived.Deep.RegionHeld3
import Derived.Deep.DeepCutAuto
import Derived.Deep.DrawnRows
namespace Go.Proofs.YtlkbapcienjdcaaDoor.Sp
open Go.RowKit
attribute [local go_sem ↓] Go.wp_at_zero Go.wp_at_succ eq24 neq24 eqg24

/-- A span is handed back; what was there is as it was. -/
def RetSpan (l h : Int) (w : World) (e : Ending) (w' : World) : Prop := e = .returned (.agg #[.int .i64 l, .int .i64 h]) ∧ Below w.heap.size w w'
def RetBool (b : Bool) (w : World) (e : Ending) (w' : World) : Prop := e = .returned (.bool b) ∧ Below w.heap.size w w'

theorem below_trans {w w1 w2 : World} (h1 : Below w.heap.size w w1) (h2 : Below w1.heap.size w1 w2) : Below w.heap.size w w2 := h1.trans (h2.mono h1.size)
theorem bcell {W w1 : World} (hb : Below W.heap.size W w1) : (∀ b o, b < W.heap.size → w1.cell? ⟨b, o, none⟩ = W.cell? ⟨b, o, none⟩) ∧ (∀ b o, b < W.heap.size → w1.frozen? ⟨b, o, none⟩ = W.frozen? ⟨b, o, none⟩) :=
  ⟨fun b o h => hb.cell (p := ⟨b, o, none⟩) h, fun b o h => hb.frozen (p := ⟨b, o, none⟩) h⟩

set_option maxHeartbeats 400000 in
theorem empty_any (w : World) : Calls Tryd.prog 75 #[] w (RetSpan 1 0 w) := by
  go_enter Tryd.func75, Tryd.ntmps75
  go_wp2
  exact bodyPost_ret (v := .agg #[.int .i64 1, .int .i64 0]) (by simp [results, Tryd.results75, go_sem]) rfl ⟨rfl, (Below.refl _ _).alloc (Nat.le_refl _) _⟩

set_option maxHeartbeats 400000 in
theorem full_any (w : World) : Calls Tryd.prog 45 #[] w (RetSpan (-1152921504606846976) 1152921504606846976 w) := by
  go_enter Tryd.func45, Tryd.ntmps45
  go_wp2
  exact bodyPost_ret (v := .agg #[.int .i64 (-1152921504606846976), .int .i64 1152921504606846976]) (by simp [results, Tryd.results45, go_sem]) rfl ⟨rfl, (Below.refl _ _).alloc (Nat.le_refl _) _⟩

set_option maxHeartbeats 800000 in
theorem of_some (l h l' h' : Int) (w : World) (hl : (l < -1152921504606846976 ∧ l' = -1152921504606846976) ∨ (-1152921504606846976 ≤ l ∧ l' = l)) (hh : (1152921504606846976 < h ∧ h' = 1152921504606846976) ∨ (h ≤ 1152921504606846976 ∧ h' = h)) (hle : l' ≤ h') :
    Calls Tryd.prog 63 #[.int .i64 l, .int .i64 h] w (RetSpan l' h' w) := by
  rcases hl with ⟨hl, rfl⟩ | ⟨hl, rfl⟩ <;> rcases hh with ⟨hh, rfl⟩ | ⟨hh, rfl⟩
  all_goals
    go_enter Tryd.func63, Tryd.ntmps63
    go_wp2_with fail
    exact bodyPost_ret (v := .agg #[.int .i64 _, .int .i64 _]) (by simp [results, Tryd.results63, go_sem]) rfl ⟨rfl, (Below.refl _ _).alloc (Nat.le_refl _) _⟩

set_option maxHeartbeats 800000 in
theorem of_none (l h l' h' : Int) (w : World) (hl : (l < -1152921504606846976 ∧ l' = -1152921504606846976) ∨ (-1152921504606846976 ≤ l ∧ l' = l)) (hh : (1152921504606846976 < h ∧ h' = 1152921504606846976) ∨ (h ≤ 1152921504606846976 ∧ h' = h)) (hle : h' < l') :
    Calls Tryd.prog 63 #[.int .i64 l, .int .i64 h] w (RetSpan 1 0 w) := by
  rcases hl with ⟨hl, rfl⟩ | ⟨hl, rfl⟩ <;> rcases hh with ⟨hh, rfl⟩ | ⟨hh, rfl⟩
  · omega
  all_goals
    go_enter Tryd.func63, Tryd.ntmps63
    go_wp2_with (go_at_call 75; ((with_reducible refine (empty_any _).mono ?_); rintro e w1 ⟨rfl, hb1⟩); obtain ⟨hc, hf⟩ := bcell hb1)
    exact bodyPost_ret (v := .agg #[.int .i64 1, .int .i64 0]) (by simp [results, Tryd.results63, go_sem, hc]) rfl ⟨rfl, ((((Below.refl _ _).alloc (Nat.le_refl _) _).trans (hb1.mono (by simp))).setCell (by simp) _).setCell (by simp) _⟩

theorem of_any (l h : Int) (w : World) : Calls Tryd.prog 63 #[.int .i64 l, .int .i64 h] w (RetSpan (ofL l h) (ofH l h) w) := by
  have hl : (l < -1152921504606846976 ∧ max l (-1152921504606846976) = -1152921504606846976) ∨ (-1152921504606846976 ≤ l ∧ max l (-1152921504606846976) = l) := by omega
  have hh : (1152921504606846976 < h ∧ min h 1152921504606846976 = 1152921504606846976) ∨ (h ≤ 1152921504606846976 ∧ min h 1152921504606846976 = h) := by omega
  rcases of_cases l h with ⟨c, e1, e2⟩ | ⟨c, e1, e2⟩
  · rw [e1, e2]; exact of_some l h _ _ w hl hh c
  · rw [e1, e2]; exact of_none l h _ _ w hl hh c

set_option maxHeartbeats 800000 in
theorem right_any (l h : Int) (w : World) : Calls Tryd.prog 74 #[.agg #[.int .i64 l, .int .i64 h]] w (RetBool (rightS l h) w) := by
  go_enter Tryd.func74, Tryd.ntmps74
  go_wp2_with fail
  go_region_held3 (fun w' => w'.cell? ⟨w.heap.size, 0, none⟩ = some (.int .i64 l) ∧ w'.cell? ⟨w.heap.size, 1, none⟩ = some (.int .i64 h)) (first | go_keep | (obtain ⟨hc, hf⟩ := bcell (by assumption); simp [hc]; done))
    (first | (go_at_call 63; ((with_reducible refine (of_any _ _ _).mono ?_); rintro e w1 ⟨rfl, hb1⟩)))
  go_wp2_with fail
  go_ret
  exact ⟨rfl, below_trans (((Below.refl _ _).alloc (Nat.le_refl _) _).drew) (by assumption)⟩

set_option maxHeartbeats 800000 in
theorem taken_no (l h : Int) (w : World) (hr : rightS l h = false) : Calls Tryd.prog 62 #[.agg #[.int .i64 l, .int .i64 h]] w (RetSpan 1 0 w) := by
  go_enter Tryd.func62, Tryd.ntmps62
  go_wp2_with (first
    | (go_at_call 74; ((with_reducible refine (right_any _ _ _).mono ?_); rintro e w1 ⟨rfl, hb1⟩); obtain ⟨hc1, hf1⟩ := bcell hb1)
    | (go_at_call 75; ((with_reducible refine (empty_any _).mono ?_); rintro e w2 ⟨rfl, hb2⟩); have hb3 := below_trans hb1 hb2; obtain ⟨hc2, hf2⟩ := bcell hb3; clear hc1 hf1))
  refine bodyPost_ret (v := .agg #[.int .i64 1, .int .i64 0]) (by simp [results, Tryd.results62, go_sem, hc2]) rfl ⟨rfl, ?_⟩
  exact ((((((Below.refl _ _).alloc (Nat.le_refl _) _).alloc (by simp) _).trans (hb3.mono (by simp; omega))).setCell (by simp) _).setCell (by simp) _)

set_option maxHeartbeats 800000 in
theorem taken_yes (l h : Int) (w : World) (hr : rightS l h = true) : Calls Tryd.prog 62 #[.agg #[.int .i64 l, .int .i64 h]] w (RetSpan l h w) := by
  go_enter Tryd.func62, Tryd.ntmps62
  go_wp2_with (first
    | (go_at_call 74; ((with_reducible refine (right_any _ _ _).mono ?_); rintro e w1 ⟨rfl, hb1⟩); obtain ⟨hc1, hf1⟩ := bcell hb1))
  refine bodyPost_ret (v := .agg #[.int .i64 l, .int .i64 h]) (by simp [results, Tryd.results62, go_sem, hc1]) rfl ⟨rfl, ?_⟩
  exact ((((((Below.refl _ _).alloc (Nat.le_refl _) _).alloc (by simp) _).trans (hb1.mono (by simp; omega))).setCell (by simp) _).setCell (by simp) _)

theorem taken_any (l h : Int) (w : World) : Calls Tryd.prog 62 #[.agg #[.int .i64 l, .int .i64 h]] w (RetSpan (tkL l h) (tkH l h) w) := by
  rcases tk_cases l h with ⟨c, e1, e2⟩ | ⟨c, e1, e2⟩
  · rw [e1, e2]; exact taken_yes l h w c
  · rw [e1, e2]; exact taken_no l h w c

end Go.Proofs.YtlkbapcienjdcaaDoor.Sp
