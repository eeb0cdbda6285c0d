/- What errors tell: Error of an Errno and of a Fault; Unwrap. -/
import Derived.Test.YtchipmiklbnedaaDoorNIs
import Derived.Test.YtchipmiklbnedaaDoorShelf
import Derived.Lib.AppendIntMem
import Derived.Lib.ItoaLen
import Derived.Lib.SmallJoins
namespace Go.Proofs.YtchipmiklbnedaaDoor
open Go.RowKit
attribute [local go_sem ↓] Go.wp_at_zero Go.wp_at_succ

def Tabs (w : World) : Prop := Lib.TabIs Tryd.prog w "internal/strconv.uint64pow10" .u64 Lib.pow10Tab
theorem gPow : Tryd.prog.globalNamed "internal/strconv.uint64pow10" = some 1 := by kernel_rfl
theorem Tabs.stays {w w' : World} (h : Tabs w) (hb : Below w.heap.size w w') : Tabs w' := Joins.tab_stays gPow h hb (Nat.le_refl _)
/-- A number's digits; what an Errno tells; what a Fault tells. -/
def itS (n : Int) : ByteArray := ⟨(Lib.itoa n).toArray⟩
theorem itS_size (n : Int) (h0 : -1152921504606846976 ≤ n) (h1 : n ≤ 1152921504606846976) : (itS n).size ≤ 21 := by
  show (Lib.itoa n).toArray.size ≤ 21
  rw [List.size_toArray]
  unfold Lib.itoa
  by_cases h : n < 0
  · rw [if_pos h, List.length_cons, Lib.decDigits_length]
    have := Lib.nDigits_le20 n.natAbs (by omega)
    omega
  · rw [if_neg h, Lib.decDigits_length]
    have := Lib.nDigits_le20 n.toNat (by omega)
    omega
def RetStr (s : ByteArray) (w : World) (e : Ending) (w' : World) : Prop := e = .returned (.string s) ∧ Below w.heap.size w w'
def errTxt (c : Int) : ByteArray := ⟨#[104, 101, 108, 109, 115, 109, 97, 110, 58, 32]⟩ ++ itS c
theorem errTxt_size (c : Int) (h : 0 ≤ c ∧ c ≤ 1000) : (errTxt c).size ≤ 40 := by
  have h1 := itS_size c (by omega) (by omega)
  unfold errTxt
  rw [ByteArray.size_append]
  show 10 + _ ≤ 40
  omega
theorem errno_any (c : Int) (h : 0 ≤ c ∧ c ≤ 1000) (w : World) (ht : Tabs w) : Calls Tryd.prog 39 #[.int .i64 c] w (RetStr (errTxt c) w) := by
  have hs := itS_size c (by omega) (by omega)
  have H : Hid (Calls Tryd.prog 52 #[.int .i64 c] w fun e w' => e = .returned (.string (itS c)) ∧ ∃ k os, w' = Go.Sort.grow (w.drewN k) os) := Lib.hid (Tryd.strconv_Itoa c (by omega) (by omega) w ht)
  clear h ht
  go_enter Tryd.func39, Tryd.ntmps39
  go_wp2_with (go_at_call 52; (with_reducible refine H.out.mono ?_); rintro e w' ⟨rfl, k, os, rfl⟩)
  go_ret
  exact ⟨rfl, Lib.below_grow _ _ (Nat.le_refl _) _ _⟩
theorem unwrap_any {fb : Nat} {v c : Int} {w : World} (h : Blk w fb 74 #[.string ⟨#[109, 107]⟩, .int .i64 v, .iface 36 (.int .i64 c)]) : Calls Tryd.prog 36 #[.pointer (some ⟨fb, 0, none⟩)] w (RetW (.iface 36 (.int .i64 c)) w) := by
  have h2 : w.cell? ⟨fb, 2, none⟩ = some (.iface 36 (.int .i64 c)) := h.cell 2
  go_enter Tryd.func36, Tryd.ntmps36
  go_wp2_with fail
  go_ret
  exact ⟨rfl, rfl⟩
theorem e_error (c : Int) (w : World) : (Go.method 255 36 (.int .i64 c) "Error").run Tryd.prog w = .ok (39, .int .i64 c) w := by kernel_rfl
theorem head_is : ((⟨#[110, 111, 100, 101, 32]⟩ : ByteArray) ++ ⟨#[109, 107]⟩ ++ ⟨#[32]⟩) = ⟨#[110, 111, 100, 101, 32, 109, 107, 32]⟩ := by rfl
set_option maxRecDepth 100000 in
set_option maxHeartbeats 1600000 in
theorem fault_text {fb : Nat} {v c : Int} {w : World} (hc : 0 ≤ c ∧ c ≤ 1000) (h : Blk w fb 74 #[.string ⟨#[109, 107]⟩, .int .i64 v, .iface 36 (.int .i64 c)]) (ht : Tabs w) :
    Calls Tryd.prog 38 #[.pointer (some ⟨fb, 0, none⟩)] w (RetStr (⟨#[110, 111, 100, 101, 32, 109, 107, 32]⟩ ++ errTxt c) w) := by
  have h0 : w.cell? ⟨fb, 0, none⟩ = some (.string ⟨#[109, 107]⟩) := h.cell 0
  have h2 : w.cell? ⟨fb, 2, none⟩ = some (.iface 36 (.int .i64 c)) := h.cell 2
  have hs := errTxt_size c hc
  have H := Lib.hid (errno_any c hc w ht)
  have hm := e_error
  clear h ht hc
  go_enter Tryd.func38, Tryd.ntmps38
  go_wp2_with (go_at_call 39; (with_reducible refine H.out.mono ?_); rintro e w' ⟨rfl, hb⟩)
  go_ret
  refine ⟨?_, hb⟩
  rw [← head_is]
  rfl
end Go.Proofs.YtchipmiklbnedaaDoor
