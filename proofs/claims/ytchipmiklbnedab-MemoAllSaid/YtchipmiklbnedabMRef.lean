/- The contracts of the document's Size, Slot, Get and Len. -/
import Derived.Test.YtchipmiklbnedabMGet
namespace Go.Proofs.Ytchipmiklbnedab
open Go.RowKit
attribute [local go_sem ↓] Go.wp_at_zero Go.wp_at_succ

theorem rsize_any (n : Int) (w : World) : Calls Try.prog 10 #[.int .i64 n] w (RetW (.int .i64 (sizeP n : Nat)) w) := by
  rcases Int.lt_or_le n 1 with h | h
  · have e : ((sizeP n : Nat) : Int) = 1 := by unfold sizeP; omega
    rw [e]
    go_enter Try.func10, Try.ntmps10
    go_wp2_with fail
    go_ret
    exact ⟨rfl, rfl⟩
  · rcases Int.lt_or_le 65536 n with h2 | h2
    · have e : ((sizeP n : Nat) : Int) = 65536 := by unfold sizeP; omega
      rw [e]
      clear e
      go_enter Try.func10, Try.ntmps10
      go_wp2_with fail
      go_ret
      exact ⟨rfl, rfl⟩
    · have e : ((sizeP n : Nat) : Int) = n := by unfold sizeP; omega
      rw [e]
      clear e
      go_enter Try.func10, Try.ntmps10
      go_wp2_with fail
      go_ret
      exact ⟨rfl, rfl⟩
def mixR (a b c : Int) : Int := IntKind.u64.wrap (IntKind.u64.wrap (IntKind.u64.wrap (IntKind.u64.wrap a * 961) + IntKind.u64.wrap (IntKind.u64.wrap b * 31)) + IntKind.u64.wrap c)
theorem mixR_all (a b c : Int) : mixR a b c = hashK (a, b, c) := by
  unfold mixR hashK
  simp only [IntKind.wrap_u64]
  omega
set_option maxRecDepth 100000 in
theorem rslot_any (n : Nat) (a b d : Int) (W : World) (hn : 0 < n) (hn2 : n ≤ 65536) :
    Calls Try.prog 17 #[.int .i64 (n : Int), .agg #[.int .i64 a, .int .i64 b, .int .i64 d]] W (RetB (.int .i64 (slotP n (a, b, d) : Nat)) W) := by
  have hb0 := (Below.refl W.heap.size W).alloc (Nat.le_refl _) (.cells #[.int .i64 a, .int .i64 b, .int .i64 d] 28)
  have HW := Lib.hid (slot_wrap (n := n) (a, b, d) hn hn2 (mixR_all a b d))
  have HB := Lib.hid hb0
  clear hb0
  go_enter Try.func17, Try.ntmps17
  go_wp2_with fail
  go_ret
  refine ⟨?_, HB.out⟩
  rw [← HW.out]
  rfl
end Go.Proofs.Ytchipmiklbnedab
