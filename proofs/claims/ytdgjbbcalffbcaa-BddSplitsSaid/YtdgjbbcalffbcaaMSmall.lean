/- The contracts of memo's least functions: Size, Len, Slot; and the document's Size and Slot. -/
import Derived.Test.YtdgjbbcalffbcaaMBase
import Derived.Laws.Bits64
import Derived.Deep.LoopGhost
import Derived.Lib.MinMax
namespace Go.Proofs.Ytdgjbbcalffbcaa.Mem
open Go.RowKit
attribute [local go_sem ↓] Go.wp_at_zero Go.wp_at_succ

def RetW (v : Value) (w : World) (e : Ending) (w' : World) : Prop := e = .returned v ∧ w = w'
def RetB (v : Value) (w : World) (e : Ending) (w' : World) : Prop := e = .returned v ∧ Below w.heap.size w w'
theorem ret_int {k : IntKind} {a b : Int} (h : a = b) : Ending.returned (.int k a) = .returned (.int k b) := by rw [h]
theorem size_any {W : World} {p n c : Nat} {A : Option Addr} (c0 : W.cell? ⟨p, 0, none⟩ = some (.slice A n c)) :
    Calls Try.prog 77 #[.pointer (some ⟨p, 0, none⟩)] W (RetW (.int .i64 n) W) := by
  go_enter Try.func77, Try.ntmps77
  go_wp2_with fail
  go_ret
  exact ⟨rfl, rfl⟩
theorem slot_wrap {n : Nat} {h : Int} (k : Ky) (hn : 0 < n) (hn2 : n ≤ 65536) (e : h = hashK k) : wrap64 (h.tmod (n : Int)) = (slotP n k : Nat) := by
  subst e
  have h0 : 0 ≤ hashK k := Int.emod_nonneg _ (by decide)
  obtain ⟨e, hlt⟩ := slotP_is hn k
  rw [Int.tmod_eq_emod_of_nonneg h0, ← e]
  unfold wrap64
  omega
def mixS (s x : Int) : Int := IntKind.u64.wrap (IntKind.u64.wrap (s * 31) + IntKind.u64.wrap x)
theorem mixS_all (a b c : Int) : mixS (mixS (IntKind.u64.wrap (IntKind.u64.wrap a)) b) c = hashK (a, b, c) := by
  unfold mixS hashK
  simp only [IntKind.wrap_u64]
  omega
set_option maxRecDepth 100000 in
set_option maxHeartbeats 800000 in
theorem slot_any {W : World} {p n c : Nat} {A : Option Addr} (a b d : Int) (c0 : W.cell? ⟨p, 0, none⟩ = some (.slice A n c)) (hn : 0 < n) (hn2 : n ≤ 65536) :
    Calls Try.prog 72 #[.pointer (some ⟨p, 0, none⟩), .agg #[.int .i64 a, .int .i64 b, .int .i64 d]] W (RetB (.int .i64 (slotP n (a, b, d) : Nat)) W) := by
  have i0 : ∀ w, (Instr.index 90 (.agg #[.int .i64 a, .int .i64 b, .int .i64 d]) (.int .i64 0)).run Try.prog w = .ok (.int .i64 a) w := fun _ => by kernel_rfl
  have i1 : ∀ w, (Instr.index 90 (.agg #[.int .i64 a, .int .i64 b, .int .i64 d]) (.int .i64 1)).run Try.prog w = .ok (.int .i64 b) w := fun _ => by kernel_rfl
  have i2 : ∀ w, (Instr.index 90 (.agg #[.int .i64 a, .int .i64 b, .int .i64 d]) (.int .i64 2)).run Try.prog w = .ok (.int .i64 d) w := fun _ => by kernel_rfl
  have hb0 := (Below.refl W.heap.size W).alloc (Nat.le_refl _) (.cells #[.int .i64 a, .int .i64 b, .int .i64 d] 90)
  have HS := Lib.hid (size_any ((hb0.cell (p := ⟨p, 0, none⟩) (World.block_lt_of_cell? W _ c0)).trans c0))
  have HW := Lib.hid (slot_wrap (n := n) (a, b, d) hn hn2 (mixS_all a b d))
  have HB := Lib.hid hb0
  clear hb0 c0
  go_enter Try.func72, Try.ntmps72
  go_wp2_with fail
  refine wp_loop_rounds 4 ?_
  rw [rounds_succ]
  go_wp2_with fail
  rw [rounds_succ]
  go_wp2_with fail
  rw [rounds_succ]
  go_wp2_with fail
  rw [rounds_succ]
  go_wp2_with (go_at_call 77; ((with_reducible refine HS.out.mono ?_); rintro e w1 ⟨rfl, rfl⟩))
  go_ret
  refine ⟨?_, HB.out⟩
  rw [← HW.out]
  rfl
end Go.Proofs.Ytdgjbbcalffbcaa.Mem
