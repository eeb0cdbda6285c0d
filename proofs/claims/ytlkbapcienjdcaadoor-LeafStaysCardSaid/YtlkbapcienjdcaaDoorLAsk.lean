/- The leaf layer: ask, with the law's closure, which does not panic. -/
import Derived.Test.YtlkbapcienjdcaaDoorLOut
import Derived.Defers
import Derived.Recover
namespace Go.Proofs.YtlkbapcienjdcaaDoor
open Go.RowKit
attribute [local go_sem ↓] Go.wp_at_zero Go.wp_at_succ
section
variable {W : World} {ob l c l0 c0 : Nat} {N N0 : Int} {A A0 : Option Addr}
theorem ask_idle (p q : Addr) (w : World) :
    CallsD Tryd.prog 68 #[.pointer (some p), .pointer (some q)] .returning w fun e u' w' => e = .returned (.tuple #[]) ∧ u' = .returning ∧ w' = w := by
  refine callsD_of_wpS Tryd.func68 rfl fun c₀ cs hu => ?_
  apply wpS_seq
  apply wpS_region
  simp [wpOpsS, go_sem, recoverD, hu, Tryd.ntmps68, Exit.thenS]
  refine wpS_cond (t := false) (by simp [Act.eval, Array.replicate]) ?_
  simp only [Bool.false_eq_true, if_false]
  refine wpS_of_wp (wp_skip ?_)
  cases c₀
  simp_all [bodyPostS, results, Tryd.results68]
set_option maxRecDepth 100000 in
set_option maxHeartbeats 1600000 in
theorem does1_any (h0 : W.cell? ⟨ob, 3, none⟩ = some (.int .i64 N)) (h1 : W.cell? ⟨ob, 4, none⟩ = some (.slice A l c)) (hlt : ob < W.heap.size) :
    Calls Tryd.prog 27 #[zoneV N0 A0 l0 c0, .pointer (some ⟨ob, 0, none⟩)] W (fun e w' => e = .returned (zoneV N A l c) ∧ Below W.heap.size W w') := by
  have b1 := zboxed W (.cells #[.int .i64 N0, .slice A0 l0 c0] 39)
  have b2 := b1.trans ((zboxed (W.alloc (.cells #[.int .i64 N0, .slice A0 l0 c0] 39)) (.cells #[.int .i64 0, .slice none 0 0] 39)).mono b1.size)
  have x0 := (b2.cell (p := ⟨ob, 3, none⟩) hlt).trans h0
  have x1 := (b2.cell (p := ⟨ob, 4, none⟩) hlt).trans h1
  have hd := Duo.new (W.alloc (.cells #[.int .i64 N0, .slice A0 l0 c0] 39)) 39 (.int .i64 0) (.slice none 0 0)
  rw [World.size_alloc] at hd
  have HB := Lib.hid b2
  have HD := Lib.hid hd
  clear h0 h1 b1 b2 hd
  go_enter Tryd.func27, Tryd.ntmps27
  go_wp2_with fail
  first
    | (exact post_cell (rb := W.heap.size + 1) Tryd.results27 rfl rfl ((HD.out.set0 _).set1 _) ⟨rfl, (HB.out.setCell (p := ⟨W.heap.size + 1, 0, none⟩) (Nat.le_succ _) _).setCell (p := ⟨W.heap.size + 1, 1, none⟩) (Nat.le_succ _) _⟩)
    | (exact post_cell (rb := W.heap.size + 1) Tryd.results27 rfl rfl (by rw [← World.size_alloc W (.cells #[.int .i64 N0, .slice A0 l0 c0] 39)]; exact Duo.new _ _ _ _) ⟨rfl, ((Below.refl _ W).alloc (Nat.le_refl _) _).alloc (by simp) _⟩)
end
end Go.Proofs.YtlkbapcienjdcaaDoor
