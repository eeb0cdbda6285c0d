/- The leaf layer: New. -/
import Derived.Test.YtlkbapcienjdcaaDoorLPut
import Derived.Test.YtlkbapcienjdcaaDoorGSmall
import Derived.Test.YtlkbapcienjdcaaDoorGSettle
namespace Go.Proofs.YtlkbapcienjdcaaDoor
open Go.RowKit
attribute [local go_sem ↓] Go.wp_at_zero Go.wp_at_succ
section
variable {W : World} {m lim : Nat}
theorem ltab_new (W : World) (m lim : Nat) : LTab W.heap.size (W.heap.size + 1) W.heap.size (.slice none 0 0) m lim [] [] ((W.alloc (.map #[] 0)).alloc (.cells #[.int .i64 ((m : Int) - 1), .int .i64 (lim : Int), .slice none 0 0, .map (some W.heap.size)] 51)) := by
  have hb := Blk.new (W.alloc (.map #[] 0)) 51 #[.int .i64 ((m : Int) - 1), .int .i64 (lim : Int), .slice none 0 0, .map (some W.heap.size)]
  rw [World.size_alloc] at hb
  have hi : StrM (W.alloc (.map #[] 0)) W.heap.size 0 (idx m []) := strM_new W
  exact ⟨Nat.le_succ _, Nat.le_refl _, hb, hi.below (zboxed _ _) (by rw [World.size_alloc]; omega), ⟨rfl, .inl ⟨rfl, rfl⟩⟩, fun i x h => by simp at h, fun i j x y h => by simp at h⟩
/-- A table as it begins: the bottom, and the Top. -/
def RetN (m lim : Nat) (w : World) (e : Ending) (w' : World) : Prop := ∃ p bm v A c A' c', e = .returned (.tuple #[.pointer (some ⟨p, 0, none⟩), .int .i64 0]) ∧ LTab w.heap.size p bm v m lim [(none, A, c), (some far, A', c')] [(none, A, c), (some far, A', c')] w' ∧ Below w.heap.size w w'
set_option maxRecDepth 100000 in
set_option maxHeartbeats 6400000 in
theorem new_in (h0 : 0 < m) (h7 : m ≤ 7) (hl : 2 ≤ lim) (ht : Tabs W) : Calls Tryd.prog 7 #[.int .i64 ((m : Int) - 1), .int .i64 (lim : Int)] W (RetN m lim W) := by
  have d1 : decide ((m : Int) - 1 < 0) = false := decide_eq_false (by omega)
  have d2 : decide (6 < (m : Int) - 1) = false := decide_eq_false (by omega)
  have d3 : decide ((lim : Int) < 2) = false := decide_eq_false (by omega)
  have b1 := zboxed W (.map #[] 0)
  have b2 := b1.trans ((zboxed (W.alloc (.map #[] 0)) (.cells #[.int .i64 ((m : Int) - 1), .int .i64 (lim : Int), .slice none 0 0, .map (some W.heap.size)] 51)).mono b1.size)
  have T0 := Lib.hid (ltab_new W m lim)
  have B0 := Lib.hid b2
  have HBo : Hid (∀ W', Calls Tryd.prog 20 #[.int .i64 ((m : Int) - 1)] W' (RetC W' m none)) := Lib.hid fun W' => (bottom_any ((m : Int) - 1) W').mono fun e w' ⟨h1, h2⟩ => by
    have e1 : botN ((m : Int) - 1) = (m : Int) - 1 := by
      unfold botN
      rw [if_pos ((mayB_iff _).2 (by omega))]
    rw [e1] at h1
    exact ⟨none, 0, h1, rfl, h2⟩
  have HTo : Hid (∀ W', Calls Tryd.prog 21 #[.int .i64 ((m : Int) - 1)] W' (RetC W' m (some far))) := Lib.hid fun W' => top_any m h7 h0 W'
  have HH1 : Hid (∀ W' A c base p bm v, LTab W.heap.size p bm v m lim [] [] W' → ZRes W' base m none (zoneV ((m : Int) - 1) A (rlen m none) c) → W.heap.size ≤ base → Below W.heap.size W W' → Calls Tryd.prog 19 #[.pointer (some ⟨p, 0, none⟩), zoneV ((m : Int) - 1) A (rlen m none) c] W' fun e w' => e = .returned (.int .i64 0) ∧ Below W.heap.size W' w' ∧ ∃ v', LTab W.heap.size p bm v' m lim [(none, A, c)] [(none, A, c)] w') := Lib.hid fun W' A c base p bm v x z hb hw => (hold_any h0 h7 (by simp) x (z.lower hb) (fun _ e => by cases e) (fun _ hy => by cases hy) (fun W2 hb2 => ht.stays (hw.trans hb2))).mono fun e w' ⟨q1, q2, v', q3, _⟩ => ⟨q1, q2, v', q3⟩
  have HH2 : Hid (∀ W' A c A0 c0 base p bm v, LTab W.heap.size p bm v m lim [(none, A0, c0)] [(none, A0, c0)] W' → ZRes W' base m (some far) (zoneV ((m : Int) - 1) A (rlen m (some far)) c) → W.heap.size ≤ base → Below W.heap.size W W' → Calls Tryd.prog 19 #[.pointer (some ⟨p, 0, none⟩), zoneV ((m : Int) - 1) A (rlen m (some far)) c] W' fun e w' => e = .returned (.int .i64 1) ∧ Below W.heap.size W' w' ∧ ∃ v', LTab W.heap.size p bm v' m lim [(none, A0, c0), (some far, A, c)] [(none, A0, c0), (some far, A, c)] w') := Lib.hid fun W' A c A0 c0 base p bm v x z hb hw => (hold_any h0 h7 (by simp) x (z.lower hb) (fun C e => by cases e; exact (zres_some z).choose_spec.2.1) (fun y hy => by
      simp only [List.mem_singleton] at hy
      subst hy
      exact fun e => text_not h0 far e.symm) (fun W2 hb2 => ht.stays (hw.trans hb2))).mono fun e w' ⟨q1, q2, v', q3, _⟩ => ⟨q1, q2, v', q3⟩
  clear h0 h7 hl ht b1 b2
  have hmm := @run_makeMap Tryd.prog
  go_enter Tryd.func7, Tryd.ntmps7
  go_wp2_with (first
    | (go_at_call 20; ((with_reducible refine (HBo.out _).mono ?_); rintro e w1 ⟨A1, c1, rfl, hz1, hb1⟩); have T1 := Lib.hid (T0.out.below hb1); have Z1 := Lib.hid hz1; have B1 := Lib.hid (B0.out.trans (hb1.mono B0.out.size)); have S1 := Lib.hid B0.out.size; clear hb1 hz1)
    | (go_at_call 21; ((with_reducible refine (HTo.out _).mono ?_); rintro e w3 ⟨A3, c3, rfl, hz3, hb3⟩); have T3 := Lib.hid (T2.out.below hb3); have Z3 := Lib.hid hz3; have B3 := Lib.hid (B2.out.trans (hb3.mono B2.out.size)); have S3 := Lib.hid B2.out.size; clear hb3 hz3)
    | (go_at_call 19; ((with_reducible refine (HH1.out _ _ _ _ _ _ _ T1.out Z1.out S1.out B1.out).mono ?_); rintro e w2 ⟨rfl, hb2, v2, hT2⟩); have T2 := Lib.hid hT2; have B2 := Lib.hid (B1.out.trans hb2); clear hb2 hT2)
    | (go_at_call 19; ((with_reducible refine (HH2.out _ _ _ _ _ _ _ _ _ T3.out Z3.out S3.out B3.out).mono ?_); rintro e w4 ⟨rfl, hb4, v4, hT4⟩); have T4 := Lib.hid hT4; have B4 := Lib.hid (B3.out.trans hb4); clear hb4 hT4))
  go_ret2
  exact ⟨_, _, v4, A1, c1, A3, c3, rfl, T4.out, B4.out⟩
end
end Go.Proofs.YtlkbapcienjdcaaDoor
