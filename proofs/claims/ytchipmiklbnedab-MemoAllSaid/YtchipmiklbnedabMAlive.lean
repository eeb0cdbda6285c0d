/- The contract of 'alive', which all statements of the memo layer ask; and what Put, Get, Len, Size and Slot tell of a memo whose values have names. -/
import Derived.Test.YtchipmiklbnedabMCopy
namespace Go.Proofs.Ytchipmiklbnedab
open Go.RowKit
attribute [local go_sem ↓] Go.wp_at_zero Go.wp_at_succ

/-- A memo lives above what there was. -/
def Lives (w : World) (p g n c : Nat) (T : Nat → Pl) (W : World) : Prop := MemoR W p g n c T ∧ w.heap.size ≤ p ∧ w.heap.size ≤ g ∧ Below w.heap.size w W
section
variable {w W : World} {p g n c : Nat} {T : Nat → Pl}
theorem Lives.below {W1 : World} (h : Lives w p g n c T W) (hb : Below W.heap.size W W1) : Lives w p g n c T W1 := ⟨h.1.below hb, h.2.1, h.2.2.1, h.2.2.2.trans (hb.mono h.2.2.2.size)⟩
theorem live_new (k : Int) (w : World) : Calls Try.prog 9 #[.int .i64 k] w fun e w' => e = .returned (.pointer (some ⟨w.heap.size + 1, 0, none⟩)) ∧ Lives w (w.heap.size + 1) w.heap.size (sizeP k) (sizeP k) noneP w' :=
  (new_any k w).mono fun _ _ ⟨h1, h2, h3⟩ => ⟨h1, h2, Nat.le_succ _, Nat.le_refl _, h3⟩
theorem live_put {a b d v : Int} (h : Lives w p g n c T W) : Calls Try.prog 11 #[.pointer (some ⟨p, 0, none⟩), .agg #[.int .i64 a, .int .i64 b, .int .i64 d], .int .i64 v] W fun e w' => (∃ u, e = .returned u) ∧ Lives w p g n c (putP n T ((a, b, d), v)) w' :=
  (put_any h.1).mono fun _ _ ⟨h1, h2, h3⟩ => ⟨h1, h2, h.2.1, h.2.2.1, h.2.2.2.trans (h3.below h.2.2.2.size (fun i hi => by
    rcases hi with rfl | rfl
    · exact h.2.1
    · exact h.2.2.1))⟩
theorem live_get {a b d : Int} {v : Int} {is : Bool} (h : Lives w p g n c T W) (hg : getP n T (a, b, d) = (v, is)) : Calls Try.prog 14 #[.pointer (some ⟨p, 0, none⟩), .agg #[.int .i64 a, .int .i64 b, .int .i64 d]] W fun e w' => e = .returned (.tuple #[.int .i64 v, .bool is]) ∧ Lives w p g n c T w' :=
  (get_any h.1).mono fun _ _ ⟨h1, h2⟩ => ⟨by rw [hg] at h1; exact h1, h.below h2⟩
theorem live_len {k : Nat} (h : Lives w p g n c T W) (hk : lenP T n = k) : Calls Try.prog 12 #[.pointer (some ⟨p, 0, none⟩)] W (RetW (.int .i64 (k : Nat)) W) := by
  rw [← hk]; exact len_any h.1.c1
theorem live_size (h : Lives w p g n c T W) : Calls Try.prog 18 #[.pointer (some ⟨p, 0, none⟩)] W (RetW (.int .i64 (n : Nat)) W) := size_any h.1.c0
theorem live_slot {a b d : Int} (h : Lives w p g n c T W) : Calls Try.prog 16 #[.pointer (some ⟨p, 0, none⟩), .agg #[.int .i64 a, .int .i64 b, .int .i64 d]] W fun e w' => e = .returned (.int .i64 (slotP n (a, b, d) : Nat)) ∧ Lives w p g n c T w' :=
  (slot_any a b d h.1.c0 h.1.room.1 h.1.room.2).mono fun _ _ ⟨h1, h2⟩ => ⟨h1, h.below h2⟩
theorem live_clear (h : Lives w p g n c T W) : Calls Try.prog 20 #[.pointer (some ⟨p, 0, none⟩)] W fun e w' => (∃ u, e = .returned u) ∧ Lives w p g n c noneP w' ∧ Only (fun i => i = p ∨ i = g) W w' :=
  (clear_any h.1).mono fun _ _ ⟨h1, h2, h3⟩ => ⟨h1, ⟨h2, h.2.1, h.2.2.1, h.2.2.2.trans (h3.below h.2.2.2.size (fun i hi => by
    rcases hi with rfl | rfl
    · exact h.2.1
    · exact h.2.2.1))⟩, h3⟩
end
def T1 : Nat → Pl := putP 1 noneP ((1, 2, 3), 7)
def T2 : Nat → Pl := putP 1 T1 ((0, 0, 0), 8)
theorem g1 : getP 1 T1 (1, 2, 3) = (7, true) := by decide +kernel
theorem g2 : getP 1 T2 (1, 2, 3) = (0, false) := by decide +kernel
theorem l2 : lenP T2 1 = 1 := by decide +kernel
theorem l3 : lenP noneP 1 = 0 := by decide +kernel
theorem s1 : sizeP 1 = 1 := by decide +kernel
theorem new_one (w : World) : Calls Try.prog 9 #[.int .i64 1] w fun e w' => e = .returned (.pointer (some ⟨w.heap.size + 1, 0, none⟩)) ∧ Lives w (w.heap.size + 1) w.heap.size 1 1 noneP w' := by
  have := live_new 1 w
  rw [s1] at this
  exact this
section
variable {w W : World} {p g : Nat}
theorem put_1 (h : Lives w p g 1 1 noneP W) : Calls Try.prog 11 #[.pointer (some ⟨p, 0, none⟩), .agg #[.int .i64 1, .int .i64 2, .int .i64 3], .int .i64 7] W fun e w' => (∃ u, e = .returned u) ∧ Lives w p g 1 1 T1 w' := live_put h
theorem put_2 (h : Lives w p g 1 1 T1 W) : Calls Try.prog 11 #[.pointer (some ⟨p, 0, none⟩), .agg #[.int .i64 0, .int .i64 0, .int .i64 0], .int .i64 8] W fun e w' => (∃ u, e = .returned u) ∧ Lives w p g 1 1 T2 w' := live_put h
theorem get_1 (h : Lives w p g 1 1 T1 W) : Calls Try.prog 14 #[.pointer (some ⟨p, 0, none⟩), .agg #[.int .i64 1, .int .i64 2, .int .i64 3]] W fun e w' => e = .returned (.tuple #[.int .i64 7, .bool true]) ∧ Lives w p g 1 1 T1 w' := live_get h g1
theorem get_2 (h : Lives w p g 1 1 T2 W) : Calls Try.prog 14 #[.pointer (some ⟨p, 0, none⟩), .agg #[.int .i64 1, .int .i64 2, .int .i64 3]] W fun e w' => e = .returned (.tuple #[.int .i64 0, .bool false]) ∧ Lives w p g 1 1 T2 w' := live_get h g2
theorem len_2 (h : Lives w p g 1 1 T2 W) : Calls Try.prog 12 #[.pointer (some ⟨p, 0, none⟩)] W (RetW (.int .i64 1) W) := live_len h l2
theorem len_3 (h : Lives w p g 1 1 noneP W) : Calls Try.prog 12 #[.pointer (some ⟨p, 0, none⟩)] W (RetW (.int .i64 0) W) := live_len h l3
theorem size_3 (h : Lives w p g 1 1 noneP W) : Calls Try.prog 18 #[.pointer (some ⟨p, 0, none⟩)] W (RetW (.int .i64 1) W) := live_size h
theorem clear_3 (h : Lives w p g 1 1 T2 W) : Calls Try.prog 20 #[.pointer (some ⟨p, 0, none⟩)] W fun e w' => (∃ u, e = .returned u) ∧ Lives w p g 1 1 noneP w' := (live_clear h).mono fun _ _ h => ⟨h.1, h.2.1⟩
end
theorem ne_nil (b : Nat) (w : World) : (binOp .eql 25 (.pointer (some ⟨b, 0, none⟩)) (.pointer none)).run Try.prog w = .ok (.bool false) w := by kernel_rfl
set_option maxRecDepth 100000 in
set_option maxHeartbeats 3200000 in
theorem alive_any (w : World) : Calls Try.prog 8 #[] w (RetB (.bool true) w) := by
  go_enter Try.func8, Try.ntmps8
  go_wp2_with (first
    | (go_at_call 9; ((with_reducible refine (new_one _).mono ?_); rintro e w1 ⟨rfl, h1⟩); have H1 := Lib.hid h1; clear h1)
    | (go_at_call 11; ((with_reducible refine (put_1 H1.out).mono ?_); rintro e w2 ⟨⟨u2, rfl⟩, h2⟩); have H2 := Lib.hid h2; clear h2)
    | (go_at_call 14; ((with_reducible refine (get_1 H2.out).mono ?_); rintro e w3 ⟨rfl, h3⟩); have H3 := Lib.hid h3; clear h3)
    | (go_at_call 11; ((with_reducible refine (put_2 H3.out).mono ?_); rintro e w4 ⟨⟨u4, rfl⟩, h4⟩); have H4 := Lib.hid h4; clear h4)
    | (go_at_call 14; ((with_reducible refine (get_2 H4.out).mono ?_); rintro e w5 ⟨rfl, h5⟩); have H5 := Lib.hid h5; clear h5)
    | (go_at_call 12; ((with_reducible refine (len_2 H5.out).mono ?_); rintro e w6 ⟨rfl, rfl⟩))
    | (go_at_call 20; ((with_reducible refine (clear_3 H5.out).mono ?_); rintro e w7 ⟨⟨u7, rfl⟩, h7⟩); have H7 := Lib.hid h7; clear h7)
    | (go_at_call 12; ((with_reducible refine (len_3 H7.out).mono ?_); rintro e w8 ⟨rfl, rfl⟩))
    | (go_at_call 18; ((with_reducible refine (size_3 H7.out).mono ?_); rintro e w9 ⟨rfl, rfl⟩)))
  go_ret
  exact ⟨rfl, H7.out.2.2.2⟩
end Go.Proofs.Ytchipmiklbnedab
