/- The leaf layer: ask tells what the law's closure tells. -/
import Derived.Test.YtlkbapcienjdcaaDoorLAsk
namespace Go.Proofs.YtlkbapcienjdcaaDoor
open Go.RowKit
attribute [local go_sem ↓] Go.wp_at_zero Go.wp_at_succ
section
variable {W : World} {ob l c l0 c0 : Nat} {N N0 : Int} {A A0 : Option Addr}
set_option maxRecDepth 100000 in
set_option maxHeartbeats 3200000 in
theorem ask_any (h0 : W.cell? ⟨ob, 3, none⟩ = some (.int .i64 N)) (h1 : W.cell? ⟨ob, 4, none⟩ = some (.slice A l c)) (hlt : ob < W.heap.size) :
    Calls Tryd.prog 50 #[.func (.func 27) #[] #[.pointer (some ⟨ob, 0, none⟩)], zoneV N0 A0 l0 c0] W (fun e w' => e = .returned (.tuple #[zoneV N A l c, .bool true]) ∧ Below W.heap.size W w') := by
  have hmf : ∀ (fn : Fn) (first cap : Array Value) (w : World), (Instr.makeFunc fn first cap).run Tryd.prog w = .ok (.func fn first cap) w := fun _ _ _ _ => rfl
  have b1 := zboxed W (.cells #[.int .i64 N0, .slice A0 l0 c0] 39)
  have b2 := b1.trans ((zboxed (W.alloc (.cells #[.int .i64 N0, .slice A0 l0 c0] 39)) (.cells #[.int .i64 0, .slice none 0 0] 39)).mono b1.size)
  have b3 := b2.trans ((zboxed ((W.alloc (.cells #[.int .i64 N0, .slice A0 l0 c0] 39)).alloc (.cells #[.int .i64 0, .slice none 0 0] 39)) (.cells #[.bool false] 4)).mono b2.size)
  have hd := Duo.new (W.alloc (.cells #[.int .i64 N0, .slice A0 l0 c0] 39)) 39 (.int .i64 0) (.slice none 0 0)
  rw [World.size_alloc] at hd
  have hd2 := hd.alloc (.cells #[.bool false] 4)
  have hx := Boxed.new ((W.alloc (.cells #[.int .i64 N0, .slice A0 l0 c0] 39)).alloc (.cells #[.int .i64 0, .slice none 0 0] 39)) 4 (.bool false)
  simp only [World.size_alloc] at hx
  have hz := (((Duo.new W 39 (.int .i64 N0) (.slice A0 l0 c0)).alloc (.cells #[.int .i64 0, .slice none 0 0] 39)).alloc (.cells #[.bool false] 4))
  have HDo : Hid (∀ W', Below W.heap.size W W' → Calls Tryd.prog 27 #[zoneV N0 A0 l0 c0, .pointer (some ⟨ob, 0, none⟩)] W' (fun e w' => e = .returned (zoneV N A l c) ∧ Below W'.heap.size W' w')) := Lib.hid fun W' hb => does1_any ((hb.cell (p := ⟨ob, 3, none⟩) hlt).trans h0) ((hb.cell (p := ⟨ob, 4, none⟩) hlt).trans h1) (Nat.lt_of_lt_of_le hlt hb.size)
  have HB := Lib.hid b3
  have HD := Lib.hid hd2
  have HX := Lib.hid hx
  have z0 := hz.cell0
  have z1 := hz.cell1
  clear h0 h1 b1 b2 b3 hd hd2 hx hz
  go_enter_defers Tryd.func50, Tryd.ntmps50
  go_wp2_with (go_at_call 27; ((with_reducible refine (HDo.out _ HB.out).mono ?_); rintro e w2 ⟨rfl, hb2⟩); have B2 := Lib.hid (HB.out.trans (hb2.mono HB.out.size)); have D2 := Lib.hid (HD.out.below hb2); have X2 := Lib.hid (boxed_below HX.out hb2); have y0 := D2.out.cell0; have y1 := D2.out.cell1; have y2 := D2.out.frozen0; have y3 := D2.out.frozen1; have y4 := D2.out.lt; have y5 := X2.out.cell; have y6 := X2.out.frozen; have y7 := X2.out.lt; clear hb2)
  refine leaves_cons (f := 68) (args := #[.pointer (some ⟨W.heap.size + 1, 0, none⟩), .pointer (some ⟨W.heap.size + 1 + 1, 0, none⟩)]) (by simp) (by simp [go_sem]) ?_
  refine (ask_idle ⟨W.heap.size + 1, 0, none⟩ ⟨W.heap.size + 1 + 1, 0, none⟩ _).mono ?_
  rintro e u' w'' ⟨rfl, rfl, rfl⟩
  have n1 : W.heap.size + 1 ≠ W.heap.size + 1 + 1 := by omega
  have k := ((D2.out.set0 (.int .i64 N)).set1 (.slice A l c)).other (a := ⟨W.heap.size + 1 + 1, 0, none⟩) n1 (.bool true)
  have kx := ((boxed_other (boxed_other X2.out (a := ⟨W.heap.size + 1, 0, none⟩) n1.symm (.int .i64 N)) (a := ⟨W.heap.size + 1, 1, none⟩) n1.symm (.slice A l c)).set (.bool true))
  have q0 := k.cell0
  have q1 := k.cell1
  have q2 := kx.cell
  simp [Leaves, settle, results, Tryd.results50, go_sem, q0, q1, q2]
  exact ((B2.out.setCell (p := ⟨W.heap.size + 1, 0, none⟩) (Nat.le_succ _) _).setCell (p := ⟨W.heap.size + 1, 1, none⟩) (Nat.le_succ _) _).setCell (p := ⟨W.heap.size + 1 + 1, 0, none⟩) (by show W.heap.size ≤ W.heap.size + 1 + 1; omega) _
end
end Go.Proofs.YtlkbapcienjdcaaDoor
