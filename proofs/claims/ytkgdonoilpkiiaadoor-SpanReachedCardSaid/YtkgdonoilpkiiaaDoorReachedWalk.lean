/- The walk of SpanReached: it returns true at any op, and any two spans. -/
import Derived.Test.YtkgdonoilpkiiaaDoorAlive
import Derived.Test.YtkgdonoilpkiiaaDoorRefWiden
import Derived.Test.YtkgdonoilpkiiaaDoorReachedNums
namespace Go.Proofs.YtkgdonoilpkiiaaDoor
open Go.RowKit
attribute [local go_sem ↓] Go.wp_at_zero Go.wp_at_succ eq24 eq23 neq24 eqg24 eqg23

theorem rb_new (w : World) (t : TypeId) (a b : Int) : Box (w.alloc (.cells #[.int .i64 a, .int .i64 b] t)) w.heap.size a b := by
  refine ⟨?_, ?_, ?_, ?_, ?_⟩ <;> go_simp
theorem rb_past {Y : World} {g : Nat} {a b : Int} (x : Box Y g a b) (o : Obj) : Box (Y.alloc o) g a b := x.below ((Below.refl _ _).alloc (Nat.le_refl _) o)
/-- Three blocks: both spans, and what is reckoned of them. -/
def Trio (w wx : World) (g : Nat) (a b c d l h : Int) : Prop := Box wx w.heap.size a b ∧ Box wx (w.heap.size + 1) c d ∧ Box wx g l h ∧ Below w.heap.size w wx ∧ w.heap.size + 1 < g
theorem Trio.below {w wx w' : World} {g : Nat} {a b c d l h : Int} (x : Trio w wx g a b c d l h) (hb : Below wx.heap.size wx w') : Trio w w' g a b c d l h :=
  ⟨x.1.below hb, x.2.1.below hb, x.2.2.1.below hb, x.2.2.2.1.trans (hb.mono x.2.2.2.1.size), x.2.2.2.2⟩
theorem Trio.drew {w wx : World} {g : Nat} {a b c d l h : Int} (x : Trio w wx g a b c d l h) : Trio w wx.drew g a b c d l h := ⟨x.1, x.2.1, x.2.2.1, x.2.2.2.1.drew, x.2.2.2.2⟩
theorem Trio.drewN {w wx : World} {g : Nat} {a b c d l h : Int} (x : Trio w wx g a b c d l h) (n : Nat) : Trio w (wx.drewN n) g a b c d l h := ⟨x.1, x.2.1, x.2.2.1, below_drewN x.2.2.2.1 n, x.2.2.2.2⟩
theorem Trio.alloc {w wx : World} {g : Nat} {a b c d l h : Int} (x : Trio w wx g a b c d l h) (o : Obj) : Trio w (wx.alloc o) g a b c d l h := x.below (boxed _ _)
theorem trio_new {w w1 : World} {a b c d : Int} (hb : Below ((w.alloc (.cells #[.int .i64 a, .int .i64 b] 23)).alloc (.cells #[.int .i64 c, .int .i64 d] 23)).heap.size ((w.alloc (.cells #[.int .i64 a, .int .i64 b] 23)).alloc (.cells #[.int .i64 c, .int .i64 d] 23)) w1) (l h : Int) :
    Trio w (w1.alloc (.cells #[.int .i64 l, .int .i64 h] 24)) w1.heap.size a b c d l h := by
  have B0 : Below w.heap.size w ((w.alloc (.cells #[.int .i64 a, .int .i64 b] 23)).alloc (.cells #[.int .i64 c, .int .i64 d] 23)) := ((Below.refl _ _).alloc (Nat.le_refl _) _).alloc (by simp) _
  have B2 : Box ((w.alloc (.cells #[.int .i64 a, .int .i64 b] 23)).alloc (.cells #[.int .i64 c, .int .i64 d] 23)) (w.heap.size + 1) c d := by have h := rb_new (w.alloc (.cells #[.int .i64 a, .int .i64 b] 23)) 23 c d; rw [World.size_alloc] at h; exact h
  have H1 := B0.trans (hb.mono B0.size)
  refine ⟨rb_past ((rb_past (rb_new w _ a b) _).below hb) _, rb_past (B2.below hb) _, rb_new _ _ _ _, H1.alloc H1.size _, ?_⟩
  have := hb.size
  simp at this
  omega

/-- A literal row of two numbers, and one of four. -/
def Lit2 (w : World) (g : Nat) (a b : Int) : Prop := g < w.heap.size ∧ w.cell? ⟨g, 0, none⟩ = some (.int .i64 a) ∧ w.cell? ⟨g, 1, none⟩ = some (.int .i64 b)
theorem Lit2.below {w w' : World} {g : Nat} {a b : Int} (x : Lit2 w g a b) (hb : Below w.heap.size w w') : Lit2 w' g a b := keep_one hb x
theorem lit2_new (w : World) (a b : Int) (g : Nat) (hg : g = w.heap.size) : Lit2 (w.alloc (.cells #[.int .i64 a, .int .i64 b] 3)) g a b := by subst hg; refine ⟨?_, ?_, ?_⟩ <;> go_simp
theorem Lit2.at {w : World} {g : Nat} {a b : Int} (x : Lit2 w g a b) {k : Nat} (hk : k < 2) : w.cell? ⟨g, k, none⟩ = some (.int .i64 (tryX a b k)) := by
  rcases (by omega : k = 0 ∨ k = 1) with rfl | rfl
  · exact x.2.1
  · exact x.2.2
theorem lit4_new (w : World) (c d : Int) : Row4 (w.alloc (.cells #[.int .i64 c, .int .i64 d, .int .i64 (-1), .int .i64 1] 3)) w.heap.size c d (-1) 1 := row4_new w _ c d (-1) 1
theorem row4_at {w : World} {g : Nat} {c d : Int} (x : Row4 w g c d (-1) 1) {j : Nat} (hj : j < 4) : w.cell? ⟨g, j, none⟩ = some (.int .i64 (tryY c d j)) := by
  rcases (by omega : j = 0 ∨ j = 1 ∨ j = 2 ∨ j = 3) with rfl | rfl | rfl | rfl
  · exact x.2.1
  · exact x.2.2.1
  · exact x.2.2.2.1
  · exact x.2.2.2.2
/-- Between two ends of a. -/
def Outer (w : World) (g gl : Nat) (op a b c d l h : Int) (x y i : Value) (wr : World) : Prop :=
  ∃ k : Nat, k ≤ 2 ∧ i = .int .i64 k ∧ x = .bool (metR op a b c d l (l == -1152921504606846976) k) ∧ y = .bool (metR op a b c d h (h == 1152921504606846976) k) ∧ Trio w wr g a b c d l h ∧ Lit2 wr gl a b
/-- Between two divisors. -/
def Inner (w : World) (g gl gd : Nat) (op a b c d l h : Int) (k : Nat) (x y i : Value) (wr : World) : Prop :=
  ∃ j : Nat, j ≤ 4 ∧ i = .int .i64 j ∧ x = .bool (metB op a b c d l (metR op a b c d l (l == -1152921504606846976) k) k j) ∧ y = .bool (metB op a b c d h (metR op a b c d h (h == 1152921504606846976) k) k j) ∧ Trio w wr g a b c d l h ∧ Lit2 wr gl a b ∧ Row4 wr gd c d (-1) 1
theorem zero_calc {op x y : Int} (h : op = 3) (h' : y = 0) (hx : inB x = true) (w : World) : Calls Tryd.prog 10 #[.int .i64 op, .int .i64 x, .int .i64 y] w fun e w' => e = .returned (.tuple #[.int .i64 0, .int .i64 11]) ∧ w = w' := by
  subst h h'; exact calc_zero x w hx

set_option maxRecDepth 100000 in
set_option maxHeartbeats 3200000 in
theorem reached_none (op a b c d : Int) (w : World) (hs : sameB (calcL op a b c d) (calcH op a b c d) 1 0 = true) : Calls Tryd.prog 4 #[.int .i64 op, .agg #[.int .i64 a, .int .i64 b], .agg #[.int .i64 c, .int .i64 d]] w (RetTrue w) := by
  have HN := Lib.hid (fun (w1 : World) hb => trio_new (w := w) (w1 := w1) (a := a) (b := b) (c := c) (d := d) hb (calcL op a b c d) (calcH op a b c d))
  go_enter Tryd.func4, Tryd.ntmps4
  go_wp2_with fail
  refine (scalc_any op a b c d _).mono ?_
  rintro e w1 ⟨rfl, hb1⟩
  have HX := Lib.hid (HN.out w1 hb1)
  clear HN hb1
  obtain ⟨-, -, ⟨z2, r0, r1, e0, e1⟩, -⟩ := HX.out
  go_wp2_with fail
  first | go_region_with (first | (go_at_call 9; ((with_reducible refine (empty_any _).mono ?_); rintro e w2 ⟨rfl, hb2⟩); obtain ⟨s0, s1, s2⟩ := keep_one (n := w1.heap.size) hb2 ⟨z2, r0, r1⟩)) | fail
  all_goals
    have HX2 := Lib.hid (HX.out.drew.below hb2)
    clear z2 r0 r1 e0 e1 hb2 s0 s1 s2
    go_wp2_with (first | (go_at_call 7; ((with_reducible refine (alive_any _).mono ?_); rintro e w3 ⟨rfl, hb3⟩)))
    go_ret
    exact ⟨rfl, (HX2.out.below hb3).2.2.2.1⟩

set_option maxRecDepth 100000 in
set_option maxHeartbeats 6400000 in
theorem reached_some (op a b c d l h : Int) (bb : Bool) (w : World) (hcal : ∀ w, Calls Tryd.prog 5 #[.int .i64 op, .agg #[.int .i64 a, .int .i64 b], .agg #[.int .i64 c, .int .i64 d]] w (RetCalc l h bb w)) (hs : sameB l h 1 0 = false) (o1 : decide (op < 0) = false) (o2 : decide (3 < op) = false)
    (hfin : metR op a b c d l (l == -1152921504606846976) 2 = true ∧ metR op a b c d h (h == 1152921504606846976) 2 = true)
    (htry : ∀ i j, (op = 3 ∧ tryY c d j = 0 ∧ inB (tryX a b i) = true ∧ tryG op a b c d i j = false) ∨
      (may op (tryX a b i) (tryY c d j) ∧ inB (opR op (tryX a b i) (tryY c d j)) = false ∧ tryG op a b c d i j = false) ∨
      (may op (tryX a b i) (tryY c d j) ∧ inB (opR op (tryX a b i) (tryY c d j)) = true ∧ hasS c d (tryY c d j) = false ∧ tryG op a b c d i j = false) ∨
      (may op (tryX a b i) (tryY c d j) ∧ inB (opR op (tryX a b i) (tryY c d j)) = true ∧ hasS c d (tryY c d j) = true ∧ tryG op a b c d i j = true)) :
    Calls Tryd.prog 4 #[.int .i64 op, .agg #[.int .i64 a, .int .i64 b], .agg #[.int .i64 c, .int .i64 d]] w (RetTrue w) := by
  have HN := Lib.hid (fun (w1 : World) hb => trio_new (w := w) (w1 := w1) (a := a) (b := b) (c := c) (d := d) hb l h)
  have HC := Lib.hid hcal
  have HF := Lib.hid hfin
  have HT := Lib.hid htry
  clear hcal hfin htry
  go_enter Tryd.func4, Tryd.ntmps4
  go_wp2_with fail
  refine (HC.out _).mono ?_
  rintro e w1 ⟨rfl, hb1⟩
  have HX := Lib.hid (HN.out w1 hb1)
  clear HN hb1 HC
  obtain ⟨-, -, ⟨z2, r0, r1, e0, e1⟩, -⟩ := HX.out
  go_wp2_with fail
  go_region_held3 (fun w' => w1.heap.size < w'.heap.size ∧ w'.cell? ⟨w1.heap.size, 0, none⟩ = some (.int .i64 l) ∧ w'.cell? ⟨w1.heap.size, 1, none⟩ = some (.int .i64 h)) (first | (exact keep_one hb2 (by assumption)) | go_keep)
    (first | (go_at_call 9; ((with_reducible refine (empty_any _).mono ?_); rintro e w2 ⟨rfl, hb2⟩)))
  have HX2 := Lib.hid (HX.out.drew.below hb2)
  clear z2 r0 r1 e0 e1 hb2
  obtain ⟨⟨z0, p0, p1, f0, f1⟩, ⟨z1, q0, q1, g0, g1⟩, ⟨z2, r0, r1, e0, e1⟩, -⟩ := HX2.out
  go_wp2_with fail
  go_quiet (fail)
  go_wp2_with fail
  have HX3 := Lib.hid ((HX2.out.drewN nq).alloc (.cells #[.int .i64 a, .int .i64 b] 3))
  have HL3 := Lib.hid (lit2_new (w2.drewN nq) a b w2.heap.size rfl)
  clear z0 p0 p1 f0 f1 z1 q0 q1 g0 g1 z2 r0 r1 e0 e1
  go_loopw [9, 10, 48] (fun x y i wr => Outer w w1.heap.size w2.heap.size op a b c d l h x y i wr) (fun _ _ i _ => 2 - (intOf i).toNat)
  case atStart => exact ⟨0, by omega, rfl, rfl, rfl, HX3.out, HL3.out⟩
  case round =>
    obtain ⟨k, hk, rfl, rfl, rfl, hx, hl⟩ := hrel
    have HXo := Lib.hid hx
    have HLo := Lib.hid hl
    clear hx hl HX HX2 HX3 HL3
    obtain ⟨⟨z0, p0, p1, f0, f1⟩, ⟨z1, q0, q1, g0, g1⟩, ⟨z2, r0, r1, e0, e1⟩, -⟩ := HXo.out
    by_cases hk2 : k < 2
    · have hc := HLo.out.at hk2
      have hlt := HLo.out.1
      obtain ⟨x, hx⟩ : ∃ x, tryX a b k = x := ⟨_, rfl⟩
      rw [hx] at hc
      obtain ⟨wo, rfl⟩ : ∃ wo : World, wo = wr := ⟨_, rfl⟩
      have HX4 := Lib.hid (HXo.out.alloc (.cells #[.int .i64 c, .int .i64 d, .int .i64 (-1), .int .i64 1] 3))
      have HL4 := Lib.hid (HLo.out.below (boxed wo (.cells #[.int .i64 c, .int .i64 d, .int .i64 (-1), .int .i64 1] 3)))
      have HD4 := Lib.hid (lit4_new wo c d)
      have HXX := Lib.hid hx
      clear hx
      have kd : decide ((k : Int) < 2) = true := decide_eq_true (by omega)
      go_wp2_with fail
      clear hc hlt
      clear z0 p0 p1 f0 f1 z1 q0 q1 g0 g1 z2 r0 r1 e0 e1
      go_loopw [9, 10, 58] (fun x y i wr => Inner w w1.heap.size w2.heap.size wo.heap.size op a b c d l h k x y i wr) (fun _ _ i _ => 4 - (intOf i).toNat)
      case atStart => exact ⟨0, by omega, rfl, rfl, rfl, HX4.out, HL4.out, HD4.out⟩
      case round =>
        obtain ⟨j, hj, rfl, rfl, rfl, hx, hl, hd⟩ := hrel
        have HXi := Lib.hid hx
        have HLi := Lib.hid hl
        have HDi := Lib.hid hd
        clear hx hl hd HX4 HL4 HD4
        obtain ⟨⟨z0, p0, p1, f0, f1⟩, ⟨z1, q0, q1, g0, g1⟩, ⟨z2, r0, r1, e0, e1⟩, -⟩ := HXi.out
        by_cases hj4 : j < 4
        · have hc := row4_at HDi.out hj4
          have hlt := HDi.out.1
          have tc := HT.out k j
          have M1 := Lib.hid (@met_no op a b c d l (metR op a b c d l (l == -1152921504606846976) k) k j)
          have M2 := Lib.hid (@met_no op a b c d h (metR op a b c d h (h == 1152921504606846976) k) k j)
          have T1 := Lib.hid (@met_try op a b c d l (metR op a b c d l (l == -1152921504606846976) k) k j)
          have T2 := Lib.hid (@met_try op a b c d h (metR op a b c d h (h == 1152921504606846976) k) k j)
          have W1 := Lib.hid (@met_was op a b c d l (metR op a b c d l (l == -1152921504606846976) k) k j)
          have W2 := Lib.hid (@met_was op a b c d h (metR op a b c d h (h == 1152921504606846976) k) k j)
          obtain ⟨y, hy⟩ : ∃ y, tryY c d j = y := ⟨_, rfl⟩
          rw [hy] at hc
          rw [HXX.out, hy] at tc T1 T2
          rcases tc with ⟨t3, t0, tx, tg⟩ | ⟨tm, ti, tg⟩ | ⟨tm, ti, th, tg⟩ | ⟨tm, ti, th, tg⟩
          · have KC := Lib.hid (fun w => zero_calc t3 t0 tx w)
            have N1 := Lib.hid (M1.out tg)
            have N2 := Lib.hid (M2.out tg)
            clear M1 M2 T1 T2 W1 W2 tg hy
            clear t3 t0 tx
            go_wp2_with (go_at_call 10; ((with_reducible refine (KC.out _).mono ?_); rintro e w' ⟨rfl, rfl⟩))
            go_roundw
            case rel => exact ⟨j + 1, by omega, by go_num, by rw [N1.out], by rw [N2.out], HXi.out, HLi.out, HDi.out⟩
            case measure => simp [intOf]; omega
          · have KC := Lib.hid (fun w => calc_over tm ti w)
            have N1 := Lib.hid (M1.out tg)
            have N2 := Lib.hid (M2.out tg)
            clear M1 M2 T1 T2 W1 W2 tg hy
            clear tm ti
            go_wp2_with (go_at_call 10; ((with_reducible refine (KC.out _).mono ?_); rintro e w' ⟨rfl, rfl⟩))
            go_roundw
            case rel => exact ⟨j + 1, by omega, by go_num, by rw [N1.out], by rw [N2.out], HXi.out, HLi.out, HDi.out⟩
            case measure => simp [intOf]; omega
          · have KC := Lib.hid (fun w => calc_in tm ti w)
            have N1 := Lib.hid (M1.out tg)
            have N2 := Lib.hid (M2.out tg)
            clear M1 M2 T1 T2 W1 W2 tg hy
            clear tm ti
            go_wp2_with (first | (go_at_call 10; ((with_reducible refine (KC.out _).mono ?_); rintro e w' ⟨rfl, rfl⟩)) | (go_at_call 11; ((with_reducible refine (rhas_any c d y _).mono ?_); rintro e w6 ⟨rfl, hb6⟩); have HX6 := Lib.hid (HXi.out.below hb6); have HL6 := Lib.hid (HLi.out.below hb6); have HD6 := Lib.hid (HDi.out.below hb6); clear hb6 z0 p0 p1 f0 f1 z1 q0 q1 g0 g1 z2 r0 r1 e0 e1; obtain ⟨⟨z0, p0, p1, f0, f1⟩, ⟨z1, q0, q1, g0, g1⟩, ⟨z2, r0, r1, e0, e1⟩, -⟩ := HX6.out))
            go_roundw
            case rel => exact ⟨j + 1, by omega, by go_num, by rw [N1.out], by rw [N2.out], HX6.out, HL6.out, HD6.out⟩
            case measure => simp [intOf]; omega
          · have KC := Lib.hid (fun w => calc_in tm ti w)
            clear M1 M2 tm ti hy
            cases b1 : metB op a b c d l (metR op a b c d l (l == -1152921504606846976) k) k j <;> cases b2 : metB op a b c d h (metR op a b c d h (h == 1152921504606846976) k) k j
            all_goals
              have N1 := Lib.hid (by first | exact T1.out b1 tg | exact W1.out b1)
              have N2 := Lib.hid (by first | exact T2.out b2 tg | exact W2.out b2)
              clear T1 T2 W1 W2 b1 b2
              go_wp2_with (first | (go_at_call 10; ((with_reducible refine (KC.out _).mono ?_); rintro e w' ⟨rfl, rfl⟩)) | (go_at_call 11; ((with_reducible refine (rhas_any c d y _).mono ?_); rintro e w6 ⟨rfl, hb6⟩); have HX6 := Lib.hid (HXi.out.below hb6); have HL6 := Lib.hid (HLi.out.below hb6); have HD6 := Lib.hid (HDi.out.below hb6); clear hb6 z0 p0 p1 f0 f1 z1 q0 q1 g0 g1 z2 r0 r1 e0 e1; obtain ⟨⟨z0, p0, p1, f0, f1⟩, ⟨z1, q0, q1, g0, g1⟩, ⟨z2, r0, r1, e0, e1⟩, -⟩ := HX6.out))
              go_quiet (fail)
              go_wp2_with fail
              go_roundw
              case rel => exact ⟨j + 1, by omega, by go_num, by rw [N1.out], by rw [N2.out], HX6.out.drewN _, HL6.out, HD6.out⟩
              case measure => simp [intOf]; omega
        · obtain rfl : j = 4 := by omega
          go_wp2_with fail
          go_roundw
          case rel => exact ⟨k + 1, by omega, by go_num, rfl, rfl, HXi.out, HLi.out⟩
          case measure => simp [intOf]; omega
    · obtain rfl : k = 2 := by omega
      have f1 := HF.out.1
      have f2 := HF.out.2
      go_wp2_with (first | (go_at_call 7; ((with_reducible refine (alive_any _).mono ?_); rintro e w3 ⟨rfl, hb3⟩)))
      go_ret
      exact ⟨rfl, (HXo.out.below hb3).2.2.2.1⟩

theorem reached_walk (op a b c d : Int) (w : World) : Calls Tryd.prog 4 #[.int .i64 op, .agg #[.int .i64 a, .int .i64 b], .agg #[.int .i64 c, .int .i64 d]] w (RetTrue w) := by
  cases hs : sameB (calcL op a b c d) (calcH op a b c d) 1 0
  · obtain ⟨h0, h3, ha, hc⟩ := calc_some_of hs
    exact reached_some op a b c d _ _ _ w (scalc_any op a b c d) hs (decide_eq_false (by omega)) (decide_eq_false (by omega)) (reached h0 h3 ha hc hs) (try_cases h0 h3 ha hc)
  · exact reached_none op a b c d w hs
end Go.Proofs.YtkgdonoilpkiiaaDoor
