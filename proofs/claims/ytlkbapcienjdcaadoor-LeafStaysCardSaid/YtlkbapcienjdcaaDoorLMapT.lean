/- The leaf layer: Map of a table, with the law's closure. -/
import Derived.Test.YtlkbapcienjdcaaDoorLAskAny
import Derived.Test.YtlkbapcienjdcaaDoorLOps
namespace Go.Proofs.YtlkbapcienjdcaaDoor
open Go.RowKit
attribute [local go_sem ↓] Go.wp_at_zero Go.wp_at_succ
section
variable {W : World} {B p bm m lim ob l c : Nat} {v : Value} {L : List Lz} {N i : Int} {A : Option Addr}
theorem fn_not_nil (b : Nat) (w : World) : (binOp .eql 59 (.func (.func 27) #[] #[.pointer (some ⟨b, 0, none⟩)]) .nilFunc).run Tryd.prog w = .ok (.bool false) w := by kernel_rfl
set_option maxRecDepth 100000 in
set_option maxHeartbeats 3200000 in
theorem mapT_any {Q : World → Ending → World → Prop} (h0 : 0 < m) (h7 : m ≤ 7) (h : LTab B p bm v m lim L L W) (x0 : W.cell? ⟨ob, 3, none⟩ = some (.int .i64 N)) (x1 : W.cell? ⟨ob, 4, none⟩ = some (.slice A l c)) (hlt : ob < W.heap.size)
    (hQ : ∀ W' e w', Q W' e w' → ∃ a b : Int, e = .returned (.tuple #[.int .i64 a, .int .i64 b])) (KP : ∀ W', Below W.heap.size W W' → Calls Tryd.prog 23 #[.pointer (some ⟨p, 0, none⟩), zoneV N A l c] W' (Q W')) :
    Calls Tryd.prog 26 #[.pointer (some ⟨p, 0, none⟩), .int .i64 i, .func (.func 27) #[] #[.pointer (some ⟨ob, 0, none⟩)]] W
      (fun e w' => ((hasN L.length i = true ∧ ∃ W', Below W.heap.size W W' ∧ Q W' e w') ∨ (hasN L.length i = false ∧ e = .returned (.tuple #[.int .i64 0, .int .i64 1]) ∧ Below W.heap.size W w')) ∧ ∃ a b : Int, e = .returned (.tuple #[.int .i64 a, .int .i64 b])) := by
  have HHas : Hid (∀ W', Below W.heap.size W W' → Calls Tryd.prog 29 #[.pointer (some ⟨p, 0, none⟩), .int .i64 i] W' (fun e w' => e = .returned (.bool (hasN L.length i)) ∧ W' = w')) := Lib.hid fun W' hb => hasL_any (h.below hb) i
  have HB0 := Lib.hid (Below.refl W.heap.size W)
  cases hi : hasN L.length i
  · rw [hi] at HHas
    clear h x0 x1 hlt hQ KP h0 h7 hi
    go_enter Tryd.func26, Tryd.ntmps26
    go_wp2_with (go_at_call 29; ((with_reducible refine (HHas.out _ HB0.out).mono ?_); rintro e w1 ⟨rfl, rfl⟩))
    go_ret2
    exact ⟨.inr ⟨by trivial, rfl, HB0.out⟩, 0, 1, rfl⟩
  · rw [hi] at HHas
    have HGet : Hid (∀ W', Below W.heap.size W W' → Calls Tryd.prog 13 #[.pointer (some ⟨p, 0, none⟩), .int .i64 i] W' (fun e w' => ∃ A1 l1 c1, e = .returned (zoneV ((m : Int) - 1) A1 l1 c1) ∧ Below W'.heap.size W' w')) := Lib.hid fun W' hb => (get_any' h0 h7 (h.below hb) i).mono fun e w' ⟨A1, c1, h1, _, h3⟩ => ⟨A1, _, c1, h1, h3⟩
    have HAsk : Hid (∀ W' A1 l1 c1, Below W.heap.size W W' → Calls Tryd.prog 50 #[.func (.func 27) #[] #[.pointer (some ⟨ob, 0, none⟩)], zoneV ((m : Int) - 1) A1 l1 c1] W' (fun e w' => e = .returned (.tuple #[zoneV N A l c, .bool true]) ∧ Below W'.heap.size W' w')) := Lib.hid fun W' A1 l1 c1 hb => ask_any ((hb.cell (p := ⟨ob, 3, none⟩) hlt).trans x0) ((hb.cell (p := ⟨ob, 4, none⟩) hlt).trans x1) (Nat.lt_of_lt_of_le hlt hb.size)
    have hnn := fn_not_nil ob
    have HPut := Lib.hid KP
    have HQ := Lib.hid hQ
    clear h x0 x1 hlt hQ KP h0 h7 hi
    go_enter Tryd.func26, Tryd.ntmps26
    go_wp2_with (first
      | (go_at_call 29; ((with_reducible refine (HHas.out _ HB0.out).mono ?_); rintro e w1 ⟨rfl, rfl⟩))
      | (go_at_call 13; ((with_reducible refine (HGet.out _ HB0.out).mono ?_); rintro e w2 ⟨A1, l1, c1, rfl, hb2⟩); have B2 := Lib.hid hb2; clear hb2)
      | (go_at_call 50; ((with_reducible refine (HAsk.out _ _ _ _ B2.out).mono ?_); rintro e w3 ⟨rfl, hb3⟩); have B3 := Lib.hid (B2.out.trans (hb3.mono B2.out.size)); have B4 := Lib.hid (B3.out.alloc B3.out.size (.cells #[.int .i64 N, .slice A l c] 39)); clear hb3)
      | (go_at_call 23; ((with_reducible refine (HPut.out _ B4.out).mono ?_); intro e w4 hq); have Q4 := Lib.hid hq; obtain ⟨a, b, he⟩ := HQ.out _ _ _ hq; clear hq; subst he))
    go_ret2
    exact ⟨.inl ⟨by trivial, _, B4.out, Q4.out⟩, a, b, rfl⟩
end
end Go.Proofs.YtlkbapcienjdcaaDoor
