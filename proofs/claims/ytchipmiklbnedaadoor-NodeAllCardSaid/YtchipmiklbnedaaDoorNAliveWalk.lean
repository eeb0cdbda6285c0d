/- The walk of 'alive'. -/
import Derived.Test.YtchipmiklbnedaaDoorNAlive
namespace Go.Proofs.YtchipmiklbnedaaDoor
open Go.RowKit
attribute [local go_sem ↓] Go.wp_at_zero Go.wp_at_succ

def L1 : List Nd := [(3, -1, -2)]
def L2 : List Nd := [(3, -1, -2), (1, -2, 0)]
theorem m1 : mkP 5 [] 3 (-1) (-2) = (L1, 0, 0) := by decide +kernel
theorem m2 : mkP 5 L1 1 0 0 = (L1, 0, 0) := by decide +kernel
theorem m3 : mkP 5 L1 1 (-2) 0 = (L2, 1, 0) := by decide +kernel
theorem m4 : mkP 5 L2 5 0 (-1) = (L2, 0, 51) := by decide +kernel
theorem e10 : endP L2 10 1 = -2 := by decide +kernel
theorem e2 : endP L2 2 1 = -1 := by decide +kernel
theorem v1 : varP L2 1 = 1 := by decide +kernel
theorem h1 : hasP L2.length 1 = true := by decide +kernel
theorem ne_nil (b : Nat) (w : World) : (binOp .eql 23 (.pointer (some ⟨b, 0, none⟩)) (.pointer none)).run Tryd.prog w = .ok (.bool false) w := by kernel_rfl
theorem new_five (w : World) : Calls Tryd.prog 9 #[.int .i64 5] w (RetNew 5 w) := new_any 5 (by omega) w
section
variable {W : World} {own : Nat → Prop} {p : Nat}
theorem a_len (h : Arena W own p 5 L2) : Calls Tryd.prog 15 #[.pointer (some ⟨p, 0, none⟩)] W (RetW (.int .i64 2) W) := arena_len h
theorem a_lim (h : Arena W own p 5 L2) : Calls Tryd.prog 16 #[.pointer (some ⟨p, 0, none⟩)] W (RetW (.int .i64 5) W) := arena_limit h
theorem a_has (h : Arena W own p 5 L2) : Calls Tryd.prog 19 #[.pointer (some ⟨p, 0, none⟩), .int .i64 1] W (RetW (.bool true) W) := by
  have := arena_has (r := 1) h
  rw [h1] at this
  exact this
theorem a_var (h : Arena W own p 5 L2) : Calls Tryd.prog 18 #[.pointer (some ⟨p, 0, none⟩), .int .i64 1] W (RetW (.int .i64 1) W) := by
  have := arena_var (r := 1) h
  rw [v1] at this
  exact this
theorem a_walk10 (h : Arena W own p 5 L2) : Calls Tryd.prog 28 #[.pointer (some ⟨p, 0, none⟩), .int .i64 1, .int .u64 10] W fun e w' => e = .returned (.int .i64 (-2)) ∧ Below W.heap.size W w' := by
  have := arena_walk (r := 1) (b := 10) h (by omega)
  rw [e10] at this
  exact this
theorem a_walk2 (h : Arena W own p 5 L2) : Calls Tryd.prog 28 #[.pointer (some ⟨p, 0, none⟩), .int .i64 1, .int .u64 2] W fun e w' => e = .returned (.int .i64 (-1)) ∧ Below W.heap.size W w' := by
  have := arena_walk (r := 1) (b := 2) h (by omega)
  rw [e2] at this
  exact this
end
/-- The arena lives, above what there was. -/
def Lives (w : World) (p : Nat) (L : List Nd) (W : World) : Prop := ∃ own : Nat → Prop, Arena W own p 5 L ∧ (∀ i, own i → w.heap.size ≤ i) ∧ Below w.heap.size w W
set_option maxRecDepth 100000 in
set_option maxHeartbeats 3200000 in
theorem alive_any (w : World) (he : ErrTy w) (ht : Tabs w) : Calls Tryd.prog 10 #[] w fun e w' => e = .returned (.bool true) ∧ Below w.heap.size w w' := by
  have HE := Lib.hid he
  have HT := Lib.hid ht
  clear he ht
  go_enter Tryd.func10, Tryd.ntmps10
  go_wp2_with (first
    | (go_at_call 9; ((with_reducible refine (new_five _).mono ?_); rintro e w1 ⟨rfl, hA1, hb1⟩); have HA1 := Lib.hid hA1; have HB1 := Lib.hid hb1; clear hA1 hb1)
    | (go_at_call 22; ((with_reducible refine (term_in 0 (by omega) (by omega) _).mono ?_); rintro e w9 ⟨rfl, rfl⟩))
    | (go_at_call 22; ((with_reducible refine (term_in 1 (by omega) (by omega) _).mono ?_); rintro e w9 ⟨rfl, rfl⟩))
    | (go_at_call 22; ((with_reducible refine (term_in 7 (by omega) (by omega) _).mono ?_); rintro e w9 ⟨rfl, rfl⟩))
    | (go_at_call 12; ((with_reducible refine (mk_is (B := w.heap.size) HA1.out (by simp) (fun i hi => Nat.le_of_eq hi.symm) HB1.out.size m1).mono ?_); rintro e w2 ⟨own2, rfl, hA2, ho2, hb2⟩); have HA2 := Lib.hid hA2; have HO2 := Lib.hid ho2; have HB2 := Lib.hid (HB1.out.trans hb2); clear hA2 ho2 hb2)
    | (go_at_call 12; ((with_reducible refine (mk_is (B := w.heap.size) HA2.out (by decide) HO2.out HB2.out.size m2).mono ?_); rintro e w3 ⟨own3, rfl, hA3, ho3, hb3⟩); have HA3 := Lib.hid hA3; have HO3 := Lib.hid ho3; have HB3 := Lib.hid (HB2.out.trans hb3); clear hA3 ho3 hb3)
    | (go_at_call 12; ((with_reducible refine (mk_is (B := w.heap.size) HA3.out (by decide) HO3.out HB3.out.size m3).mono ?_); rintro e w4 ⟨own4, rfl, hA4, ho4, hb4⟩); have HA4 := Lib.hid hA4; have HO4 := Lib.hid ho4; have HB4 := Lib.hid (HB3.out.trans hb4); clear hA4 ho4 hb4)
    | (go_at_call 12; ((with_reducible refine (mk_err (B := w.heap.size) HA4.out (by decide) HO4.out HB4.out.size m4 (by decide)).mono ?_); rintro e w5 ⟨own5, b5, rfl, hk5, hA5, ho5, hb5⟩); have HA5 := Lib.hid hA5; have HK5 := Lib.hid hk5; have HB5 := Lib.hid (HB4.out.trans hb5); clear hA5 ho5 hb5 hk5)
    | (go_at_call 14; ((with_reducible refine (number_fault HK5.out (HE.out.below HB5.out) (HT.out.stays HB5.out) (by omega)).mono ?_); rintro e w6 ⟨rfl, hb6⟩); have HA6 := Lib.hid (HA5.out.below hb6); have HB6 := Lib.hid (HB5.out.trans (hb6.mono HB5.out.size)); clear hb6)
    | (go_at_call 15; ((with_reducible refine (a_len HA6.out).mono ?_); rintro e w9 ⟨rfl, rfl⟩))
    | (go_at_call 28; ((with_reducible refine (a_walk10 HA6.out).mono ?_); rintro e w7 ⟨rfl, hb7⟩); have HA7 := Lib.hid (HA6.out.below hb7); have HB7 := Lib.hid (HB6.out.trans (hb7.mono HB6.out.size)); clear hb7)
    | (go_at_call 28; ((with_reducible refine (a_walk2 HA7.out).mono ?_); rintro e w8 ⟨rfl, hb8⟩); have HA8 := Lib.hid (HA7.out.below hb8); have HB8 := Lib.hid (HB7.out.trans (hb8.mono HB7.out.size)); clear hb8)
    | (go_at_call 24; ((with_reducible refine (value_in (-8) (by omega) (by omega) _).mono ?_); rintro e w9 ⟨rfl, rfl⟩))
    | (go_at_call 26; ((with_reducible refine (isTerm_any _ _).mono ?_); rintro e w9 ⟨rfl, rfl⟩))
    | (go_at_call 18; ((with_reducible refine (a_var HA8.out).mono ?_); rintro e w9 ⟨rfl, rfl⟩))
    | (go_at_call 16; ((with_reducible refine (a_lim HA8.out).mono ?_); rintro e w9 ⟨rfl, rfl⟩))
    | (go_at_call 19; ((with_reducible refine (a_has HA8.out).mono ?_); rintro e w9 ⟨rfl, rfl⟩)))
  all_goals go_ret
  all_goals exact ⟨rfl, HB8.out⟩
end Go.Proofs.YtchipmiklbnedaaDoor
