/- The contract of 'alive', which all statements of the zone layer ask. -/
import Derived.Test.YtlkbapcienjdcaaDoorGHas
namespace Go.Proofs.YtlkbapcienjdcaaDoor
open Go.RowKit
attribute [local go_sem ↓] Go.wp_at_zero Go.wp_at_succ

/-- A zone of two variables. -/
def RetM (C : Mat) (w : World) (e : Ending) (w' : World) : Prop := ∃ A cap, e = .returned (zoneV 2 A 9 cap) ∧ ZRes w' w.heap.size 3 (some C) (zoneV 2 A 9 cap) ∧ Below w.heap.size w w'
theorem retM {C : Mat} {w w' : World} {e : Ending} (h : RetC w 3 (some C) e w') : RetM C w e w' := h
def RetE (w : World) (e : Ending) (w' : World) : Prop := e = .returned (zoneV 2 none 0 0) ∧ Below w.heap.size w w'
theorem retE {w w' : World} {e : Ending} (h : RetC w 3 none e w') : RetE w e w' := by
  obtain ⟨A, cap, rfl, hz, hb⟩ := h
  have hz : zoneV ((3 : Nat) - 1 : Int) A 0 cap = zoneV ((3 : Nat) - 1 : Int) none 0 0 := hz
  refine ⟨?_, hb⟩
  show Ending.returned (zoneV ((3 : Nat) - 1 : Int) A 0 cap) = _
  rw [hz]
  rfl
theorem n_close {w : World} {base : Nat} {C : Mat} {A : Option Addr} {cap : Nat} (hz : ZRes w base 3 (some C) (zoneV 2 A 9 cap)) : Calls Tryd.prog 32 #[zoneV 2 A 9 cap] w (RetC w 3 (some C)) := close_back (m := 3) (R := some C) (by decide) (by decide) hz
theorem e_close (w : World) : Calls Tryd.prog 32 #[zoneV 2 none 0 0] w (RetC w 3 none) := close_back (m := 3) (R := none) (base := 0) (by decide) (by decide) (rfl : zoneV 2 none 0 0 = zoneV 2 none 0 0)
theorem n_top (w : World) : Calls Tryd.prog 21 #[.int .i64 2] w (RetM far w) := (top_any 3 (by decide) (by decide) w).mono fun _ _ h => retM h
theorem n_text (w : World) : Calls Tryd.prog 28 #[zoneV 2 none 0 0] w fun e w' => e = .returned (.string ⟨#[98, 111, 116, 116, 111, 109]⟩) ∧ Below w.heap.size w w' := text_none (m := 3) (fun W _ => e_close W)
theorem n_same0 (w : World) : Calls Tryd.prog 14 #[zoneV 2 none 0 0, zoneV 2 none 0 0] w (RetB w true) := same_any (ma := 3) (mb := 3) (Ra := none) (Rb := none) (by decide) (by decide) (fun W _ => e_close W) (fun W _ => e_close W)
theorem n_bottom (w : World) : Calls Tryd.prog 20 #[.int .i64 2] w (RetE w) := (bottom_any 2 w).mono fun _ _ h => h
theorem n_leq {w : World} {base : Nat} {A : Option Addr} {cap : Nat} (hz : ZRes w base 3 (some (rowsM 3 A2)) (zoneV 2 A 9 cap)) : Calls Tryd.prog 17 #[zoneV 2 none 0 0, zoneV 2 A 9 cap] w (RetB w true) :=
  leq_any (ma := 3) (mb := 3) (Ra := none) (Rb := some (rowsM 3 A2)) (by decide) (by decide) (fun _ hW => two_of (fun W _ => e_close W) (fun _ hV => n_close ((hz.below hW).below hV)))
theorem n_join {w : World} {base : Nat} {A : Option Addr} {cap : Nat} (hz : ZRes w base 3 (some (rowsM 3 A2)) (zoneV 2 A 9 cap)) : Calls Tryd.prog 34 #[zoneV 2 none 0 0, zoneV 2 A 9 cap] w (RetM (rowsM 3 A2) w) :=
  (join_any (ma := 3) (mb := 3) (Ra := none) (Rb := some (rowsM 3 A2)) (by decide) (by decide) (fun _ hW => two_of (fun W _ => e_close W) (fun _ hV => n_close ((hz.below hW).below hV)))).mono fun _ _ h => retM h
theorem n_same1 {w : World} {base base2 : Nat} {A B : Option Addr} {cap d : Nat} (hz : ZRes w base 3 (some (rowsM 3 A2)) (zoneV 2 A 9 cap)) (hy : ZRes w base2 3 (some (rowsM 3 A2)) (zoneV 2 B 9 d)) : Calls Tryd.prog 14 #[zoneV 2 B 9 d, zoneV 2 A 9 cap] w (RetB w true) := by
  have h := same_any (ma := 3) (mb := 3) (w := w) (by decide) (by decide) (fun _ hW => n_close (hy.below hW)) (fun _ hW => n_close (hz.below hW))
  rw [show sameO 3 3 (some (rowsM 3 A2)) (some (rowsM 3 A2)) = true by decide +kernel] at h
  exact h
/-- Both boxes, and the row of the first. -/
def Al (w : World) (base zb eb : Nat) (A : Option Addr) (c : Nat) (W : World) : Prop := ZRes W base 3 (some (rowsM 3 A2)) (zoneV 2 A 9 c) ∧ Duo W zb 39 (.int .i64 2) (.slice A 9 c) ∧ Duo W eb 39 (.int .i64 2) (.slice none 0 0) ∧ Below w.heap.size w W ∧ base ≤ W.heap.size
theorem Al.below {w W W1 : World} {base zb eb c : Nat} {A : Option Addr} (h : Al w base zb eb A c W) (hb : Below W.heap.size W W1) : Al w base zb eb A c W1 := ⟨h.1.below hb, h.2.1.below hb, h.2.2.1.below hb, h.2.2.2.1.trans (hb.mono h.2.2.2.1.size), Nat.le_trans h.2.2.2.2 hb.size⟩
theorem Al.cells {w W : World} {base zb eb c : Nat} {A : Option Addr} (h : Al w base zb eb A c W) : W.cell? ⟨zb, 0, none⟩ = some (.int .i64 2) ∧ W.cell? ⟨zb, 1, none⟩ = some (.slice A 9 c) ∧ W.cell? ⟨eb, 0, none⟩ = some (.int .i64 2) ∧ W.cell? ⟨eb, 1, none⟩ = some (.slice none 0 0) := ⟨h.2.1.cell0, h.2.1.cell1, h.2.2.1.cell0, h.2.2.1.cell1⟩

end Go.Proofs.YtlkbapcienjdcaaDoor
