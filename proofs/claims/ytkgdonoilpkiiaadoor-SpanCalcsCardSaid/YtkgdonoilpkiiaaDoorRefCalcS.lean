/- The contract of the document's Calc of spans. -/
import Derived.Test.YtkgdonoilpkiiaaDoorRefCalcNums
import Derived.Test.YtkgdonoilpkiiaaDoorRefJoin
import Derived.Test.YtkgdonoilpkiiaaDoorRefWiden
namespace Go.Proofs.YtkgdonoilpkiiaaDoor
open Go.RowKit
attribute [local go_sem ↓] Go.wp_at_zero Go.wp_at_succ eq24 eq23 neq24 eqg24 eqg23

theorem rpost_calc {fn : Func} {l h : Int} {b : Bool} {w0 : World} {a : Act} {w : World} (hr : (results fn a.tmps).run Tryd.prog w = .ok (.tuple #[.agg #[.int .i64 l, .int .i64 h], .bool b]) w) (hd : a.defers = []) (hb : Below w0.heap.size w0 w) : bodyPost Tryd.prog fn (RetCalc l h b w0) .ret a w := bodyPost_ret hr hd ⟨rfl, hb⟩

set_option maxHeartbeats 1600000 in
theorem rcalc_none (op a b c d : Int) (w : World) (h : noneS a b = true ∨ (noneS a b = false ∧ noneS c d = true) ∨ (noneS a b = false ∧ noneS c d = false ∧ decide (op < 0) = true) ∨ (noneS a b = false ∧ noneS c d = false ∧ decide (op < 0) = false ∧ decide (3 < op) = true)) :
    Calls Tryd.prog 6 #[.int .i64 op, .agg #[.int .i64 a, .int .i64 b], .agg #[.int .i64 c, .int .i64 d]] w (RetCalc 1 0 false w) := by
  have HX := Lib.hid (rboxes_new w a b c d 0 0)
  rcases h with h | ⟨h, h'⟩ | ⟨h, h', o1⟩ | ⟨h, h', o1, o2⟩
  all_goals
    go_enter Tryd.func6, Tryd.ntmps6
    go_wp2_with (first
      | (go_at_call 18; ((with_reducible refine (rnone_any a b _).mono ?_); rintro e w1 ⟨rfl, hb1⟩); have HX1 := Lib.hid (HX.out.below hb1); obtain ⟨⟨z0, p0, p1, f0, f1⟩, ⟨z1, q0, q1, g0, g1⟩, ⟨z2, r0, r1, e0, e1⟩, -⟩ := HX1.out)
      | (go_at_call 18; ((with_reducible refine (rnone_any c d _).mono ?_); rintro e w2 ⟨rfl, hb2⟩); have HX2 := Lib.hid (HX1.out.below hb2); obtain ⟨⟨z0, p0, p1, f0, f1⟩, ⟨z1, q0, q1, g0, g1⟩, ⟨z2, r0, r1, e0, e1⟩, -⟩ := HX2.out))
    refine rpost_calc ?_ rfl ?_
    · simp [results, Tryd.results6, go_sem, r0, r1]
    first | exact HX1.out.put_out _ _ | exact HX2.out.put_out _ _

theorem qone {op x y : Int} (h : may op x y) (w : World) (n : Nat) : Calls Tryd.prog 19 #[.int .i64 op, .int .i64 x, .int .i64 y] (w.drewN n) fun e w'' => e = .returned (.tuple #[.int .i64 (oneR op x y), .bool true]) ∧ ∃ m, w'' = w.drewN m := (one_any h _).mono fun _ _ h => ⟨h.1, n, h.2.symm⟩
theorem qone2 {op x y : Int} (h : may op x y) (w : World) (k n : Nat) : Calls Tryd.prog 19 #[.int .i64 op, .int .i64 x, .int .i64 y] (w.drewN (k + n)) fun e w'' => e = .returned (.tuple #[.int .i64 (oneR op x y), .bool true]) ∧ ∃ m, w'' = w.drewN (k + m) := (one_any h _).mono fun _ _ h => ⟨h.1, n, h.2.symm⟩
theorem qzero (x : Int) (w : World) (n : Nat) : Calls Tryd.prog 19 #[.int .i64 3, .int .i64 x, .int .i64 0] (w.drewN n) fun e w'' => e = .returned (.tuple #[.int .i64 0, .bool false]) ∧ ∃ m, w'' = w.drewN m := (one_zero x _).mono fun _ _ h => ⟨h.1, n, h.2.symm⟩
theorem qzero2 (x : Int) (w : World) (k n : Nat) : Calls Tryd.prog 19 #[.int .i64 3, .int .i64 x, .int .i64 0] (w.drewN (k + n)) fun e w'' => e = .returned (.tuple #[.int .i64 0, .bool false]) ∧ ∃ m, w'' = w.drewN (k + m) := (one_zero x _).mono fun _ _ h => ⟨h.1, n, h.2.symm⟩
theorem own_drewN {w : World} {base : Nat} {e : TypeId} {size n : Nat} {v : Value} {xs : List Value} (h : w.ownsRow base e size v n xs) (k : Nat) : (w.drewN k).ownsRow base e size v n xs := h
theorem news2q (w : World) (p q : Int) (n : Nat) : ∀ j u, ([.int .i64 p, .int .i64 q] : List Value)[j]? = some u → ((w.alloc (.cells #[.int .i64 p, .int .i64 q] 3)).drewN n).cell? ((⟨w.heap.size, 0, none⟩ : Addr).add j) = some u := news2 w p q
theorem rmore {wc wr w4 : World} {C : Nat → List Int} {k n : Nat} {v v' : Value} {o : Obj} {p q : Int} (hnx : Below wc.heap.size wc wr) (hown : wr.ownsRow wc.heap.size 3 1 v (EndsOf C k).length ((EndsOf C k).map (Value.int .i64))) (hC : C k = [p, q])
    (hown' : w4.ownsRow wc.heap.size 3 1 v' ((EndsOf C k).length + 2) ((EndsOf C k).map (Value.int .i64) ++ [.int .i64 p, .int .i64 q])) (hgrow : ((wr.alloc o).drewN n).grownBy w4 v.ownBlock) :
    w4.ownsRow wc.heap.size 3 1 v' (EndsOf C (k + 1)).length ((EndsOf C (k + 1)).map (Value.int .i64)) ∧ Below wc.heap.size wc w4 := by
  refine ⟨?_, (below_drewN (hnx.alloc hnx.size o) n).grown hgrow (below_drewN (hnx.alloc hnx.size o) n).size (fun g hg => (hown.lt g hg).1)⟩
  rw [ends_succ, hC, List.length_append, List.map_append]
  exact hown'
theorem rless {wc wr : World} {C : Nat → List Int} {k n : Nat} {v : Value} (hnx : Below wc.heap.size wc wr) (hown : wr.ownsRow wc.heap.size 3 1 v (EndsOf C k).length ((EndsOf C k).map (Value.int .i64))) (hC : C k = []) :
    (wr.drewN n).ownsRow wc.heap.size 3 1 v (EndsOf C (k + 1)).length ((EndsOf C (k + 1)).map (Value.int .i64)) ∧ Below wc.heap.size wc (wr.drewN n) := by
  refine ⟨?_, below_drewN hnx n⟩
  rw [ends_succ, hC, List.append_nil]
  exact own_drewN hown n
theorem rwB_two {C : Nat → List Int} {W0 : Bool} {k : Nat} {p q : Int} (hC : C k = [p, q]) : rwB C W0 (k + 1) = (rwB C W0 k || (!inB p || !inB q)) := by
  show (rwB C W0 k || (C k).any (fun n => !inB n)) = _
  rw [hC]; simp
theorem rwB_nil {C : Nat → List Int} {W0 : Bool} {k : Nat} (hC : C k = []) : rwB C W0 (k + 1) = rwB C W0 k := by
  show (rwB C W0 k || (C k).any (fun n => !inB n)) = _
  rw [hC]; simp
/-- One number more, in a new row. -/
theorem ymore {w2 wx wy : World} {o : Obj} {v v' : Value} {ys : List Int} {p : Int} (hb : Below w2.heap.size w2 wx) (hown : wx.ownsRow w2.heap.size 3 1 v ys.length (ys.map (Value.int .i64)))
    (hown' : wy.ownsRow w2.heap.size 3 1 v' (ys.length + 1) (ys.map (Value.int .i64) ++ [.int .i64 p])) (hgrow : (wx.alloc o).grownBy wy v.ownBlock) :
    wy.ownsRow w2.heap.size 3 1 v' (ys ++ [p]).length ((ys ++ [p]).map (Value.int .i64)) ∧ Below w2.heap.size w2 wy := by
  refine ⟨?_, (hb.alloc hb.size o).grown hgrow (hb.alloc hb.size o).size (fun g hg => (hown.lt g hg).1)⟩
  rw [List.length_append, List.map_append]
  exact hown'
theorem ykeep {w2 wx wy : World} {v : Value} {ys : List Int} (hb : Below w2.heap.size w2 wx) (hown : wx.ownsRow w2.heap.size 3 1 v ys.length (ys.map (Value.int .i64))) (hn : Below wx.heap.size wx wy) :
    wy.ownsRow w2.heap.size 3 1 v ys.length (ys.map (Value.int .i64)) ∧ Below w2.heap.size w2 wy := ⟨own_below hown hn, hb.trans (hn.mono hb.size)⟩

/-- Ahead of the document's loop. -/
def Ahead (w : World) (a b c d : Int) (ys : List Int) (W0 : Bool) (v bv lv i : Value) (wx : World) : Prop :=
  Boxes w wx a b c d 0 0 ∧ (∃ (A : Option Addr) (cap : Nat), v = .slice A ys.length cap ∧ ys.length ≤ cap ∧ Ints wx A ys.length (fun j => ys.getD j 0)) ∧ bv = .bool W0 ∧ lv = .slice none 0 0 ∧ i = .int .i64 0
theorem ahead_mk {w w2 wx : World} {a b c d : Int} {ys : List Int} {W0 : Bool} {v : Value} (hX : Boxes w w2 a b c d 0 0) (h : wx.ownsRow w2.heap.size 3 1 v ys.length (ys.map (Value.int .i64)) ∧ Below w2.heap.size w2 wx) : Ahead w a b c d ys W0 v (.bool W0) (.slice none 0 0) (.int .i64 0) wx :=
  ⟨hX.below h.2, ints_of_own h.1, rfl, rfl, rfl⟩
/-- In the document's loop. -/
def RRound (wc : World) (op a b : Int) (ys : List Int) (W0 : Bool) (bv lv i : Value) (wr : World) : Prop :=
  ∃ k : Nat, k ≤ ys.length ∧ i = .int .i64 k ∧ bv = .bool (rwB (rC op a b ys) W0 k) ∧ wr.ownsRow wc.heap.size 3 1 lv (EndsOf (rC op a b ys) k).length ((EndsOf (rC op a b ys) k).map (Value.int .i64)) ∧ Below wc.heap.size wc wr
theorem ylit (w2 : World) (c d : Int) : (w2.alloc (.cells #[.int .i64 c, .int .i64 d] 3)).ownsRow w2.heap.size 3 1 (.slice (some ⟨w2.heap.size, 0, none⟩) 2 2) [c, d].length ([c, d].map (Value.int .i64)) ∧ Below w2.heap.size w2 (w2.alloc (.cells #[.int .i64 c, .int .i64 d] 3)) :=
  ⟨World.ownsRow_lit _ _ 2 (Nat.le_refl _) (by unfold maxLen; omega) rfl, boxed _ _⟩

set_option maxRecDepth 100000 in
set_option maxHeartbeats 6400000 in
theorem rcalc_ne3 (op a b c d : Int) (w : World) (ha : noneS a b = false) (hc : noneS c d = false) (o1 : decide (op < 0) = false) (o2 : decide (3 < op) = false) (ys : List Int) (W0 : Bool) (hm : ∀ y, y ∈ ys → ¬ (op = 3 ∧ y = 0) → may op a y ∧ may op b y) (hl4 : ys.length ≤ 4)
    (o3 : (op == 3) = false) (hys : ys = [c, d]) (hW0 : W0 = false) :
    Calls Tryd.prog 6 #[.int .i64 op, .agg #[.int .i64 a, .int .i64 b], .agg #[.int .i64 c, .int .i64 d]] w
      (RetCalc (hullL (fun j => (rEnds op a b ys).getD j 0) (rEnds op a b ys).length) (hullH (fun j => (rEnds op a b ys).getD j 0) (rEnds op a b ys).length) (rwB (rC op a b ys) W0 ys.length) w) := by
  have HX := Lib.hid (rboxes_new w a b c d 0 0)
  have HM := Lib.hid (hm)
  have HYS := Lib.hid hys
  have HW0 := Lib.hid hW0
  clear hm hys hW0
  obtain ⟨i0, hi, hi0, hi1, hi2⟩ := info_parts info3
  go_enter Tryd.func6, Tryd.ntmps6
  go_upto_region 10 with (first
    | (go_at_call 18; ((with_reducible refine (rnone_any a b _).mono ?_); rintro e w1 ⟨rfl, hb1⟩); have HX1 := Lib.hid (HX.out.below hb1); clear hb1; obtain ⟨⟨z0, p0, p1, f0, f1⟩, ⟨z1, q0, q1, g0, g1⟩, ⟨z2, r0, r1, e0, e1⟩, -⟩ := HX1.out)
    | (go_at_call 18; ((with_reducible refine (rnone_any c d _).mono ?_); rintro e w2 ⟨rfl, hb2⟩); have HX2 := Lib.hid (HX1.out.below hb2); have HY := Lib.hid (ylit w2 c d); clear hb2; clear z0 p0 p1 f0 f1 z1 q0 q1 g0 g1 z2 r0 r1 e0 e1; obtain ⟨⟨z0, p0, p1, f0, f1⟩, ⟨z1, q0, q1, g0, g1⟩, ⟨z2, r0, r1, e0, e1⟩, -⟩ := HX2.out))
  go_cut [8, 9, 10, 11] (fun v bv lv i wx => Ahead w a b c d ys W0 v bv lv i wx)
  case first =>
    go_wp2_with fail
    go_meet
    rw [HYS.out, HW0.out]
    exact ahead_mk HX2.out HY.out
  case rest =>
    obtain ⟨hX, ⟨A, capY, rfl, hcapY, hIY⟩, rfl, rfl, rfl⟩ := hcut
    have HXc := Lib.hid hX
    have HI := Lib.hid hIY
    clear hX hIY HX HX1 HX2 HYS HW0
    try clear z0 p0 p1 f0 f1 z1 q0 q1 g0 g1 z2 r0 r1 e0 e1
    obtain ⟨⟨z0, p0, p1, f0, f1⟩, ⟨z1, q0, q1, g0, g1⟩, ⟨z2, r0, r1, e0, e1⟩, -⟩ := HXc.out
    go_wp2_with fail
    go_loopw [9, 10, 11] (fun bv lv i wr => RRound wc op a b ys W0 bv lv i wr) (fun _ _ i _ => ys.length - (intOf i).toNat)
    case atStart => exact ⟨0, Nat.zero_le _, rfl, rfl, World.ownsRow_nil _ _ _ _, Below.refl _ _⟩
    case round =>
      obtain ⟨k, hk, rfl, rfl, hown, hnx⟩ := hrel
      have HO := Lib.hid hown
      have HN := Lib.hid hnx
      clear hown hnx
      have HXr := Lib.hid (HXc.out.below HN.out)
      clear z0 p0 p1 f0 f1 z1 q0 q1 g0 g1 z2 r0 r1 e0 e1
      obtain ⟨⟨z0, p0, p1, f0, f1⟩, ⟨z1, q0, q1, g0, g1⟩, ⟨z2, r0, r1, e0, e1⟩, -⟩ := HXr.out
      by_cases hlt : k < ys.length
      · obtain ⟨yb, off, rfl, hbl, hcells⟩ := (HI.out.below HN.out) (by omega)
        obtain ⟨y, hy⟩ : ∃ y, ys.getD k 0 = y := ⟨_, rfl⟩
        have hcell : wr.cell? ⟨yb, off + k, none⟩ = some (.int .i64 y) := by rw [← hy]; exact hcells k hlt
        clear hcells
        have hlen := ends_len (rC_len op a b ys) k
        by_cases hz : op = 3 ∧ y = 0
        · exfalso; rw [hz.1] at o3; cases o3
        · have hm12 := HM.out y (by rw [← hy]; exact getD_in hlt) hz
          have M1 := Lib.hid hm12.1
          have M2 := Lib.hid hm12.2
          have HC := Lib.hid (show rC op a b ys k = [oneR op a y, oneR op b y] from by unfold rC; rw [hy, if_neg (fun h => hz h)])
          have hR := rwB_two (W0 := W0) HC.out
          clear hm12 hz hy
          cases hW : rwB (rC op a b ys) W0 k
          · rw [hW] at hR
            cases hb : inB (oneR op a y)
            · rw [hb] at hR
              have HR := Lib.hid hR
              clear hR hW
              go_wp2_with fail
              go_quiet ((go_at_call 19; exact qone M1.out _ _))
              go_wp2_with fail
              go_quiet ((go_at_call 19; first | exact qone2 M2.out _ _ _ | exact qone M2.out _ _))
              go_wp2_with (first
                | (go_at_call 20; ((with_reducible refine (rin_any _ _).mono ?_); rintro e w' ⟨rfl, rfl⟩))
                | (at_builtin; refine wpList_append_own _ rfl (.tmp 92) (.tmp 95) 33 rfl wc.heap.size 3 i0 (.int .i64 0) 1 8 Tryd.underlying33 hi hi0 hi1 hi2 rfl (by decide) _ _ _ rfl (own_drewN (HO.out.alloc _) _) ⟨wr.heap.size, 0, none⟩ 2 2 [.int .i64 (oneR op a y), .int .i64 (oneR op b y)] rfl rfl (news2q wr _ _ _) (one2 _ _) (by unfold maxLen; omega) (by omega) (by have := HN.out.size; simp; omega) ?_; intro v' w4 hown' hgrow _; have HO4 := Lib.hid (rmore HN.out HO.out HC.out hown' hgrow); clear hown' hgrow))
              go_roundw
              case rel => exact ⟨k + 1, by omega, by go_num, by rw [HR.out]; simp, HO4.out.1, HO4.out.2⟩
              case measure => simp [intOf]; omega
            · rw [hb] at hR
              have HR := Lib.hid hR
              clear hR hW
              go_wp2_with fail
              go_quiet ((go_at_call 19; exact qone M1.out _ _))
              go_wp2_with fail
              go_quiet ((go_at_call 19; first | exact qone2 M2.out _ _ _ | exact qone M2.out _ _))
              go_wp2_with (first
                | (go_at_call 20; ((with_reducible refine (rin_any _ _).mono ?_); rintro e w' ⟨rfl, rfl⟩))
                | (at_builtin; refine wpList_append_own _ rfl (.tmp 92) (.tmp 95) 33 rfl wc.heap.size 3 i0 (.int .i64 0) 1 8 Tryd.underlying33 hi hi0 hi1 hi2 rfl (by decide) _ _ _ rfl (own_drewN (HO.out.alloc _) _) ⟨wr.heap.size, 0, none⟩ 2 2 [.int .i64 (oneR op a y), .int .i64 (oneR op b y)] rfl rfl (news2q wr _ _ _) (one2 _ _) (by unfold maxLen; omega) (by omega) (by have := HN.out.size; simp; omega) ?_; intro v' w4 hown' hgrow _; have HO4 := Lib.hid (rmore HN.out HO.out HC.out hown' hgrow); clear hown' hgrow))
              go_roundw
              case rel => exact ⟨k + 1, by omega, by go_num, by rw [HR.out]; simp, HO4.out.1, HO4.out.2⟩
              case measure => simp [intOf]; omega
          · rw [hW] at hR
            have HR := Lib.hid hR
            clear hR hW
            go_wp2_with fail
            go_quiet ((go_at_call 19; exact qone M1.out _ _))
            go_wp2_with fail
            go_quiet ((go_at_call 19; first | exact qone2 M2.out _ _ _ | exact qone M2.out _ _))
            go_wp2_with (at_builtin; refine wpList_append_own _ rfl (.tmp 92) (.tmp 95) 33 rfl wc.heap.size 3 i0 (.int .i64 0) 1 8 Tryd.underlying33 hi hi0 hi1 hi2 rfl (by decide) _ _ _ rfl (own_drewN (HO.out.alloc _) _) ⟨wr.heap.size, 0, none⟩ 2 2 [.int .i64 (oneR op a y), .int .i64 (oneR op b y)] rfl rfl (news2q wr _ _ _) (one2 _ _) (by unfold maxLen; omega) (by omega) (by have := HN.out.size; simp; omega) ?_; intro v' w4 hown' hgrow _; have HO4 := Lib.hid (rmore HN.out HO.out HC.out hown' hgrow); clear hown' hgrow)
            go_roundw
            case rel => exact ⟨k + 1, by omega, by go_num, by rw [HR.out]; simp, HO4.out.1, HO4.out.2⟩
            case measure => simp [intOf]; omega
      · obtain rfl : k = ys.length := by omega
        go_wp2_with (first | (go_at_call 21; ((with_reducible refine (rhull_own _ HO.out (by have := ends_len (rC_len op a b ys) ys.length; omega)).mono ?_); rintro e w5 ⟨rfl, hb5⟩); have HX5 := Lib.hid (HXr.out.below hb5); clear z0 p0 p1 f0 f1 z1 q0 q1 g0 g1 z2 r0 r1 e0 e1; obtain ⟨⟨z0, p0, p1, f0, f1⟩, ⟨z1, q0, q1, g0, g1⟩, ⟨z2, r0, r1, e0, e1⟩, -⟩ := HX5.out))
        refine rpost_calc ?_ rfl ?_
        · simp [results, Tryd.results6, go_sem, r0, r1, rEnds]
        exact HX5.out.put_out _ _

set_option maxRecDepth 100000 in
set_option maxHeartbeats 6400000 in
theorem rcalc_3nn (a b c d : Int) (w : World) (ha : noneS a b = false) (hc : noneS c d = false) (ys : List Int) (W0 : Bool) (hm : ∀ y, y ∈ ys → ¬ (3 = 3 ∧ y = 0) → may 3 a y ∧ may 3 b y) (hl4 : ys.length ≤ 4)
    (h1 : hasS c d 1 = false) (h2 : hasS c d (-1) = false) (hys : ys = [c, d]) (hW0 : hasS c d 0 = W0) :
    Calls Tryd.prog 6 #[.int .i64 3, .agg #[.int .i64 a, .int .i64 b], .agg #[.int .i64 c, .int .i64 d]] w
      (RetCalc (hullL (fun j => (rEnds 3 a b ys).getD j 0) (rEnds 3 a b ys).length) (hullH (fun j => (rEnds 3 a b ys).getD j 0) (rEnds 3 a b ys).length) (rwB (rC 3 a b ys) W0 ys.length) w) := by
  have HX := Lib.hid (rboxes_new w a b c d 0 0)
  have HM := Lib.hid (hm)
  have HYS := Lib.hid hys
  have HW0 := Lib.hid hW0
  clear hm hys hW0
  obtain ⟨i0, hi, hi0, hi1, hi2⟩ := info_parts info3
  go_enter Tryd.func6, Tryd.ntmps6
  go_upto_region 10 with (first
    | (go_at_call 18; ((with_reducible refine (rnone_any a b _).mono ?_); rintro e w1 ⟨rfl, hb1⟩); have HX1 := Lib.hid (HX.out.below hb1); clear hb1; obtain ⟨⟨z0, p0, p1, f0, f1⟩, ⟨z1, q0, q1, g0, g1⟩, ⟨z2, r0, r1, e0, e1⟩, -⟩ := HX1.out)
    | (go_at_call 18; ((with_reducible refine (rnone_any c d _).mono ?_); rintro e w2 ⟨rfl, hb2⟩); have HX2 := Lib.hid (HX1.out.below hb2); have HY := Lib.hid (ylit w2 c d); clear hb2; clear z0 p0 p1 f0 f1 z1 q0 q1 g0 g1 z2 r0 r1 e0 e1; obtain ⟨⟨z0, p0, p1, f0, f1⟩, ⟨z1, q0, q1, g0, g1⟩, ⟨z2, r0, r1, e0, e1⟩, -⟩ := HX2.out)
    | (go_at_call 11; ((with_reducible refine (rhas_any c d (1) _).mono ?_); rintro e w3 ⟨rfl, hbn⟩); have HY1 := Lib.hid (ykeep HY.out.2 HY.out.1 hbn); have HX3 := Lib.hid (HX2.out.below HY1.out.2); clear hbn; clear z0 p0 p1 f0 f1 z1 q0 q1 g0 g1 z2 r0 r1 e0 e1; obtain ⟨⟨z0, p0, p1, f0, f1⟩, ⟨z1, q0, q1, g0, g1⟩, ⟨z2, r0, r1, e0, e1⟩, -⟩ := HX3.out)
    | (go_at_call 11; ((with_reducible refine (rhas_any c d (-1) _).mono ?_); rintro e w4 ⟨rfl, hbn⟩); have HY3 := Lib.hid (ykeep HY1.out.2 HY1.out.1 hbn); have HX4 := Lib.hid (HX2.out.below HY3.out.2); clear hbn; clear z0 p0 p1 f0 f1 z1 q0 q1 g0 g1 z2 r0 r1 e0 e1; obtain ⟨⟨z0, p0, p1, f0, f1⟩, ⟨z1, q0, q1, g0, g1⟩, ⟨z2, r0, r1, e0, e1⟩, -⟩ := HX4.out)
    | (go_at_call 11; ((with_reducible refine (rhas_any c d (0) _).mono ?_); rintro e w5 ⟨rfl, hbn⟩); have HY5 := Lib.hid (ykeep HY3.out.2 HY3.out.1 hbn); have HX5 := Lib.hid (HX2.out.below HY5.out.2); clear hbn; clear z0 p0 p1 f0 f1 z1 q0 q1 g0 g1 z2 r0 r1 e0 e1; obtain ⟨⟨z0, p0, p1, f0, f1⟩, ⟨z1, q0, q1, g0, g1⟩, ⟨z2, r0, r1, e0, e1⟩, -⟩ := HX5.out))
  go_cut [8, 9, 10, 11] (fun v bv lv i wx => Ahead w a b c d ys W0 v bv lv i wx)
  case first =>
    go_wp2_with fail
    go_meet
    rw [HYS.out]
    simp only [HW0.out]
    exact ahead_mk HX2.out HY5.out
  case rest =>
    obtain ⟨hX, ⟨A, capY, rfl, hcapY, hIY⟩, rfl, rfl, rfl⟩ := hcut
    have HXc := Lib.hid hX
    have HI := Lib.hid hIY
    clear hX hIY HX HX1 HX2 HYS HW0
    try clear z0 p0 p1 f0 f1 z1 q0 q1 g0 g1 z2 r0 r1 e0 e1
    obtain ⟨⟨z0, p0, p1, f0, f1⟩, ⟨z1, q0, q1, g0, g1⟩, ⟨z2, r0, r1, e0, e1⟩, -⟩ := HXc.out
    go_wp2_with fail
    go_loopw [9, 10, 11] (fun bv lv i wr => RRound wc 3 a b ys W0 bv lv i wr) (fun _ _ i _ => ys.length - (intOf i).toNat)
    case atStart => exact ⟨0, Nat.zero_le _, rfl, rfl, World.ownsRow_nil _ _ _ _, Below.refl _ _⟩
    case round =>
      obtain ⟨k, hk, rfl, rfl, hown, hnx⟩ := hrel
      have HO := Lib.hid hown
      have HN := Lib.hid hnx
      clear hown hnx
      have HXr := Lib.hid (HXc.out.below HN.out)
      clear z0 p0 p1 f0 f1 z1 q0 q1 g0 g1 z2 r0 r1 e0 e1
      obtain ⟨⟨z0, p0, p1, f0, f1⟩, ⟨z1, q0, q1, g0, g1⟩, ⟨z2, r0, r1, e0, e1⟩, -⟩ := HXr.out
      by_cases hlt : k < ys.length
      · obtain ⟨yb, off, rfl, hbl, hcells⟩ := (HI.out.below HN.out) (by omega)
        obtain ⟨y, hy⟩ : ∃ y, ys.getD k 0 = y := ⟨_, rfl⟩
        have hcell : wr.cell? ⟨yb, off + k, none⟩ = some (.int .i64 y) := by rw [← hy]; exact hcells k hlt
        clear hcells
        have hlen := ends_len (rC_len 3 a b ys) k
        by_cases hz : y = 0
        · subst hz
          have HC := Lib.hid (show rC 3 a b ys k = [] from by unfold rC; rw [hy]; rfl)
          have HR := Lib.hid (rwB_nil (W0 := W0) HC.out)
          clear hy
          go_wp2_with fail
          go_quiet ((go_at_call 19; exact qzero _ _ _))
          go_wp2_with fail
          go_quiet ((go_at_call 19; first | exact qzero2 _ _ _ _ | exact qzero _ _ _))
          go_wp2_with fail
          have HL := fun n => rless (n := n) HN.out HO.out HC.out
          have HL' := Lib.hid HL
          clear HL
          go_roundw
          case rel => exact ⟨k + 1, by omega, by go_num, by rw [HR.out], (HL'.out _).1, (HL'.out _).2⟩
          case measure => simp [intOf]; omega
        · have hm12 := HM.out y (by rw [← hy]; exact getD_in hlt) (fun h => hz h.2)
          have M1 := Lib.hid hm12.1
          have M2 := Lib.hid hm12.2
          have HC := Lib.hid (show rC 3 a b ys k = [oneR 3 a y, oneR 3 b y] from by unfold rC; rw [hy, if_neg (fun h => hz h.2)])
          have hR := rwB_two (W0 := W0) HC.out
          clear hm12 hz hy
          cases hW : rwB (rC 3 a b ys) W0 k
          · rw [hW] at hR
            cases hb : inB (oneR 3 a y)
            · rw [hb] at hR
              have HR := Lib.hid hR
              clear hR hW
              go_wp2_with fail
              go_quiet ((go_at_call 19; exact qone M1.out _ _))
              go_wp2_with fail
              go_quiet ((go_at_call 19; first | exact qone2 M2.out _ _ _ | exact qone M2.out _ _))
              go_wp2_with (first
                | (go_at_call 20; ((with_reducible refine (rin_any _ _).mono ?_); rintro e w' ⟨rfl, rfl⟩))
                | (at_builtin; refine wpList_append_own _ rfl (.tmp 92) (.tmp 95) 33 rfl wc.heap.size 3 i0 (.int .i64 0) 1 8 Tryd.underlying33 hi hi0 hi1 hi2 rfl (by decide) _ _ _ rfl (own_drewN (HO.out.alloc _) _) ⟨wr.heap.size, 0, none⟩ 2 2 [.int .i64 (oneR 3 a y), .int .i64 (oneR 3 b y)] rfl rfl (news2q wr _ _ _) (one2 _ _) (by unfold maxLen; omega) (by omega) (by have := HN.out.size; simp; omega) ?_; intro v' w4 hown' hgrow _; have HO4 := Lib.hid (rmore HN.out HO.out HC.out hown' hgrow); clear hown' hgrow))
              go_roundw
              case rel => exact ⟨k + 1, by omega, by go_num, by rw [HR.out]; simp, HO4.out.1, HO4.out.2⟩
              case measure => simp [intOf]; omega
            · rw [hb] at hR
              have HR := Lib.hid hR
              clear hR hW
              go_wp2_with fail
              go_quiet ((go_at_call 19; exact qone M1.out _ _))
              go_wp2_with fail
              go_quiet ((go_at_call 19; first | exact qone2 M2.out _ _ _ | exact qone M2.out _ _))
              go_wp2_with (first
                | (go_at_call 20; ((with_reducible refine (rin_any _ _).mono ?_); rintro e w' ⟨rfl, rfl⟩))
                | (at_builtin; refine wpList_append_own _ rfl (.tmp 92) (.tmp 95) 33 rfl wc.heap.size 3 i0 (.int .i64 0) 1 8 Tryd.underlying33 hi hi0 hi1 hi2 rfl (by decide) _ _ _ rfl (own_drewN (HO.out.alloc _) _) ⟨wr.heap.size, 0, none⟩ 2 2 [.int .i64 (oneR 3 a y), .int .i64 (oneR 3 b y)] rfl rfl (news2q wr _ _ _) (one2 _ _) (by unfold maxLen; omega) (by omega) (by have := HN.out.size; simp; omega) ?_; intro v' w4 hown' hgrow _; have HO4 := Lib.hid (rmore HN.out HO.out HC.out hown' hgrow); clear hown' hgrow))
              go_roundw
              case rel => exact ⟨k + 1, by omega, by go_num, by rw [HR.out]; simp, HO4.out.1, HO4.out.2⟩
              case measure => simp [intOf]; omega
          · rw [hW] at hR
            have HR := Lib.hid hR
            clear hR hW
            go_wp2_with fail
            go_quiet ((go_at_call 19; exact qone M1.out _ _))
            go_wp2_with fail
            go_quiet ((go_at_call 19; first | exact qone2 M2.out _ _ _ | exact qone M2.out _ _))
            go_wp2_with (at_builtin; refine wpList_append_own _ rfl (.tmp 92) (.tmp 95) 33 rfl wc.heap.size 3 i0 (.int .i64 0) 1 8 Tryd.underlying33 hi hi0 hi1 hi2 rfl (by decide) _ _ _ rfl (own_drewN (HO.out.alloc _) _) ⟨wr.heap.size, 0, none⟩ 2 2 [.int .i64 (oneR 3 a y), .int .i64 (oneR 3 b y)] rfl rfl (news2q wr _ _ _) (one2 _ _) (by unfold maxLen; omega) (by omega) (by have := HN.out.size; simp; omega) ?_; intro v' w4 hown' hgrow _; have HO4 := Lib.hid (rmore HN.out HO.out HC.out hown' hgrow); clear hown' hgrow)
            go_roundw
            case rel => exact ⟨k + 1, by omega, by go_num, by rw [HR.out]; simp, HO4.out.1, HO4.out.2⟩
            case measure => simp [intOf]; omega
      · obtain rfl : k = ys.length := by omega
        go_wp2_with (first | (go_at_call 21; ((with_reducible refine (rhull_own _ HO.out (by have := ends_len (rC_len 3 a b ys) ys.length; omega)).mono ?_); rintro e w5 ⟨rfl, hb5⟩); have HX5 := Lib.hid (HXr.out.below hb5); clear z0 p0 p1 f0 f1 z1 q0 q1 g0 g1 z2 r0 r1 e0 e1; obtain ⟨⟨z0, p0, p1, f0, f1⟩, ⟨z1, q0, q1, g0, g1⟩, ⟨z2, r0, r1, e0, e1⟩, -⟩ := HX5.out))
        refine rpost_calc ?_ rfl ?_
        · simp [results, Tryd.results6, go_sem, r0, r1, rEnds]
        exact HX5.out.put_out _ _

set_option maxRecDepth 100000 in
set_option maxHeartbeats 6400000 in
theorem rcalc_3ny (a b c d : Int) (w : World) (ha : noneS a b = false) (hc : noneS c d = false) (ys : List Int) (W0 : Bool) (hm : ∀ y, y ∈ ys → ¬ (3 = 3 ∧ y = 0) → may 3 a y ∧ may 3 b y) (hl4 : ys.length ≤ 4)
    (h1 : hasS c d 1 = false) (h2 : hasS c d (-1) = true) (hys : ys = [c, d] ++ [-1]) (hW0 : hasS c d 0 = W0) :
    Calls Tryd.prog 6 #[.int .i64 3, .agg #[.int .i64 a, .int .i64 b], .agg #[.int .i64 c, .int .i64 d]] w
      (RetCalc (hullL (fun j => (rEnds 3 a b ys).getD j 0) (rEnds 3 a b ys).length) (hullH (fun j => (rEnds 3 a b ys).getD j 0) (rEnds 3 a b ys).length) (rwB (rC 3 a b ys) W0 ys.length) w) := by
  have HX := Lib.hid (rboxes_new w a b c d 0 0)
  have HM := Lib.hid (hm)
  have HYS := Lib.hid hys
  have HW0 := Lib.hid hW0
  clear hm hys hW0
  obtain ⟨i0, hi, hi0, hi1, hi2⟩ := info_parts info3
  go_enter Tryd.func6, Tryd.ntmps6
  go_upto_region 10 with (first
    | (go_at_call 18; ((with_reducible refine (rnone_any a b _).mono ?_); rintro e w1 ⟨rfl, hb1⟩); have HX1 := Lib.hid (HX.out.below hb1); clear hb1; obtain ⟨⟨z0, p0, p1, f0, f1⟩, ⟨z1, q0, q1, g0, g1⟩, ⟨z2, r0, r1, e0, e1⟩, -⟩ := HX1.out)
    | (go_at_call 18; ((with_reducible refine (rnone_any c d _).mono ?_); rintro e w2 ⟨rfl, hb2⟩); have HX2 := Lib.hid (HX1.out.below hb2); have HY := Lib.hid (ylit w2 c d); clear hb2; clear z0 p0 p1 f0 f1 z1 q0 q1 g0 g1 z2 r0 r1 e0 e1; obtain ⟨⟨z0, p0, p1, f0, f1⟩, ⟨z1, q0, q1, g0, g1⟩, ⟨z2, r0, r1, e0, e1⟩, -⟩ := HX2.out)
    | (go_at_call 11; ((with_reducible refine (rhas_any c d (1) _).mono ?_); rintro e w3 ⟨rfl, hbn⟩); have HY1 := Lib.hid (ykeep HY.out.2 HY.out.1 hbn); have HX3 := Lib.hid (HX2.out.below HY1.out.2); clear hbn; clear z0 p0 p1 f0 f1 z1 q0 q1 g0 g1 z2 r0 r1 e0 e1; obtain ⟨⟨z0, p0, p1, f0, f1⟩, ⟨z1, q0, q1, g0, g1⟩, ⟨z2, r0, r1, e0, e1⟩, -⟩ := HX3.out)
    | (go_at_call 11; ((with_reducible refine (rhas_any c d (-1) _).mono ?_); rintro e w4 ⟨rfl, hbn⟩); have HY3 := Lib.hid (ykeep HY1.out.2 HY1.out.1 hbn); have HX4 := Lib.hid (HX2.out.below HY3.out.2); clear hbn; clear z0 p0 p1 f0 f1 z1 q0 q1 g0 g1 z2 r0 r1 e0 e1; obtain ⟨⟨z0, p0, p1, f0, f1⟩, ⟨z1, q0, q1, g0, g1⟩, ⟨z2, r0, r1, e0, e1⟩, -⟩ := HX4.out)
    | (at_builtin; refine wpList_append_own _ rfl (.tmp 51) (.tmp 52) 33 rfl w2.heap.size 3 i0 (.int .i64 0) 1 8 Tryd.underlying33 hi hi0 hi1 hi2 rfl (by decide) _ _ _ rfl (HY3.out.1.alloc _) ⟨w4.heap.size, 0, none⟩ 1 1 [.int .i64 (-1)] rfl rfl (news1 w4 _) (one1 _) (by unfold maxLen; simp) (by simp) (by have := HY3.out.2.size; simp; omega) ?_; intro v5 w5 hown' hgrow _; have HY4 := Lib.hid (ymore HY3.out.2 HY3.out.1 hown' hgrow); have HX5 := Lib.hid (HX2.out.below HY4.out.2); clear hown' hgrow; clear z0 p0 p1 f0 f1 z1 q0 q1 g0 g1 z2 r0 r1 e0 e1; obtain ⟨⟨z0, p0, p1, f0, f1⟩, ⟨z1, q0, q1, g0, g1⟩, ⟨z2, r0, r1, e0, e1⟩, -⟩ := HX5.out)
    | (go_at_call 11; ((with_reducible refine (rhas_any c d (0) _).mono ?_); rintro e w6 ⟨rfl, hbn⟩); have HY5 := Lib.hid (ykeep HY4.out.2 HY4.out.1 hbn); have HX6 := Lib.hid (HX2.out.below HY5.out.2); clear hbn; clear z0 p0 p1 f0 f1 z1 q0 q1 g0 g1 z2 r0 r1 e0 e1; obtain ⟨⟨z0, p0, p1, f0, f1⟩, ⟨z1, q0, q1, g0, g1⟩, ⟨z2, r0, r1, e0, e1⟩, -⟩ := HX6.out))
  go_cut [8, 9, 10, 11] (fun v bv lv i wx => Ahead w a b c d ys W0 v bv lv i wx)
  case first =>
    go_wp2_with fail
    go_meet
    rw [HYS.out]
    simp only [HW0.out]
    exact ahead_mk HX2.out HY5.out
  case rest =>
    obtain ⟨hX, ⟨A, capY, rfl, hcapY, hIY⟩, rfl, rfl, rfl⟩ := hcut
    have HXc := Lib.hid hX
    have HI := Lib.hid hIY
    clear hX hIY HX HX1 HX2 HYS HW0
    try clear z0 p0 p1 f0 f1 z1 q0 q1 g0 g1 z2 r0 r1 e0 e1
    obtain ⟨⟨z0, p0, p1, f0, f1⟩, ⟨z1, q0, q1, g0, g1⟩, ⟨z2, r0, r1, e0, e1⟩, -⟩ := HXc.out
    go_wp2_with fail
    go_loopw [9, 10, 11] (fun bv lv i wr => RRound wc 3 a b ys W0 bv lv i wr) (fun _ _ i _ => ys.length - (intOf i).toNat)
    case atStart => exact ⟨0, Nat.zero_le _, rfl, rfl, World.ownsRow_nil _ _ _ _, Below.refl _ _⟩
    case round =>
      obtain ⟨k, hk, rfl, rfl, hown, hnx⟩ := hrel
      have HO := Lib.hid hown
      have HN := Lib.hid hnx
      clear hown hnx
      have HXr := Lib.hid (HXc.out.below HN.out)
      clear z0 p0 p1 f0 f1 z1 q0 q1 g0 g1 z2 r0 r1 e0 e1
      obtain ⟨⟨z0, p0, p1, f0, f1⟩, ⟨z1, q0, q1, g0, g1⟩, ⟨z2, r0, r1, e0, e1⟩, -⟩ := HXr.out
      by_cases hlt : k < ys.length
      · obtain ⟨yb, off, rfl, hbl, hcells⟩ := (HI.out.below HN.out) (by omega)
        obtain ⟨y, hy⟩ : ∃ y, ys.getD k 0 = y := ⟨_, rfl⟩
        have hcell : wr.cell? ⟨yb, off + k, none⟩ = some (.int .i64 y) := by rw [← hy]; exact hcells k hlt
        clear hcells
        have hlen := ends_len (rC_len 3 a b ys) k
        by_cases hz : y = 0
        · subst hz
          have HC := Lib.hid (show rC 3 a b ys k = [] from by unfold rC; rw [hy]; rfl)
          have HR := Lib.hid (rwB_nil (W0 := W0) HC.out)
          clear hy
          go_wp2_with fail
          go_quiet ((go_at_call 19; exact qzero _ _ _))
          go_wp2_with fail
          go_quiet ((go_at_call 19; first | exact qzero2 _ _ _ _ | exact qzero _ _ _))
          go_wp2_with fail
          have HL := fun n => rless (n := n) HN.out HO.out HC.out
          have HL' := Lib.hid HL
          clear HL
          go_roundw
          case rel => exact ⟨k + 1, by omega, by go_num, by rw [HR.out], (HL'.out _).1, (HL'.out _).2⟩
          case measure => simp [intOf]; omega
        · have hm12 := HM.out y (by rw [← hy]; exact getD_in hlt) (fun h => hz h.2)
          have M1 := Lib.hid hm12.1
          have M2 := Lib.hid hm12.2
          have HC := Lib.hid (show rC 3 a b ys k = [oneR 3 a y, oneR 3 b y] from by unfold rC; rw [hy, if_neg (fun h => hz h.2)])
          have hR := rwB_two (W0 := W0) HC.out
          clear hm12 hz hy
          cases hW : rwB (rC 3 a b ys) W0 k
          · rw [hW] at hR
            cases hb : inB (oneR 3 a y)
            · rw [hb] at hR
              have HR := Lib.hid hR
              clear hR hW
              go_wp2_with fail
              go_quiet ((go_at_call 19; exact qone M1.out _ _))
              go_wp2_with fail
              go_quiet ((go_at_call 19; first | exact qone2 M2.out _ _ _ | exact qone M2.out _ _))
              go_wp2_with (first
                | (go_at_call 20; ((with_reducible refine (rin_any _ _).mono ?_); rintro e w' ⟨rfl, rfl⟩))
                | (at_builtin; refine wpList_append_own _ rfl (.tmp 92) (.tmp 95) 33 rfl wc.heap.size 3 i0 (.int .i64 0) 1 8 Tryd.underlying33 hi hi0 hi1 hi2 rfl (by decide) _ _ _ rfl (own_drewN (HO.out.alloc _) _) ⟨wr.heap.size, 0, none⟩ 2 2 [.int .i64 (oneR 3 a y), .int .i64 (oneR 3 b y)] rfl rfl (news2q wr _ _ _) (one2 _ _) (by unfold maxLen; omega) (by omega) (by have := HN.out.size; simp; omega) ?_; intro v' w4 hown' hgrow _; have HO4 := Lib.hid (rmore HN.out HO.out HC.out hown' hgrow); clear hown' hgrow))
              go_roundw
              case rel => exact ⟨k + 1, by omega, by go_num, by rw [HR.out]; simp, HO4.out.1, HO4.out.2⟩
              case measure => simp [intOf]; omega
            · rw [hb] at hR
              have HR := Lib.hid hR
              clear hR hW
              go_wp2_with fail
              go_quiet ((go_at_call 19; exact qone M1.out _ _))
              go_wp2_with fail
              go_quiet ((go_at_call 19; first | exact qone2 M2.out _ _ _ | exact qone M2.out _ _))
              go_wp2_with (first
                | (go_at_call 20; ((with_reducible refine (rin_any _ _).mono ?_); rintro e w' ⟨rfl, rfl⟩))
                | (at_builtin; refine wpList_append_own _ rfl (.tmp 92) (.tmp 95) 33 rfl wc.heap.size 3 i0 (.int .i64 0) 1 8 Tryd.underlying33 hi hi0 hi1 hi2 rfl (by decide) _ _ _ rfl (own_drewN (HO.out.alloc _) _) ⟨wr.heap.size, 0, none⟩ 2 2 [.int .i64 (oneR 3 a y), .int .i64 (oneR 3 b y)] rfl rfl (news2q wr _ _ _) (one2 _ _) (by unfold maxLen; omega) (by omega) (by have := HN.out.size; simp; omega) ?_; intro v' w4 hown' hgrow _; have HO4 := Lib.hid (rmore HN.out HO.out HC.out hown' hgrow); clear hown' hgrow))
              go_roundw
              case rel => exact ⟨k + 1, by omega, by go_num, by rw [HR.out]; simp, HO4.out.1, HO4.out.2⟩
              case measure => simp [intOf]; omega
          · rw [hW] at hR
            have HR := Lib.hid hR
            clear hR hW
            go_wp2_with fail
            go_quiet ((go_at_call 19; exact qone M1.out _ _))
            go_wp2_with fail
            go_quiet ((go_at_call 19; first | exact qone2 M2.out _ _ _ | exact qone M2.out _ _))
            go_wp2_with (at_builtin; refine wpList_append_own _ rfl (.tmp 92) (.tmp 95) 33 rfl wc.heap.size 3 i0 (.int .i64 0) 1 8 Tryd.underlying33 hi hi0 hi1 hi2 rfl (by decide) _ _ _ rfl (own_drewN (HO.out.alloc _) _) ⟨wr.heap.size, 0, none⟩ 2 2 [.int .i64 (oneR 3 a y), .int .i64 (oneR 3 b y)] rfl rfl (news2q wr _ _ _) (one2 _ _) (by unfold maxLen; omega) (by omega) (by have := HN.out.size; simp; omega) ?_; intro v' w4 hown' hgrow _; have HO4 := Lib.hid (rmore HN.out HO.out HC.out hown' hgrow); clear hown' hgrow)
            go_roundw
            case rel => exact ⟨k + 1, by omega, by go_num, by rw [HR.out]; simp, HO4.out.1, HO4.out.2⟩
            case measure => simp [intOf]; omega
      · obtain rfl : k = ys.length := by omega
        go_wp2_with (first | (go_at_call 21; ((with_reducible refine (rhull_own _ HO.out (by have := ends_len (rC_len 3 a b ys) ys.length; omega)).mono ?_); rintro e w5 ⟨rfl, hb5⟩); have HX5 := Lib.hid (HXr.out.below hb5); clear z0 p0 p1 f0 f1 z1 q0 q1 g0 g1 z2 r0 r1 e0 e1; obtain ⟨⟨z0, p0, p1, f0, f1⟩, ⟨z1, q0, q1, g0, g1⟩, ⟨z2, r0, r1, e0, e1⟩, -⟩ := HX5.out))
        refine rpost_calc ?_ rfl ?_
        · simp [results, Tryd.results6, go_sem, r0, r1, rEnds]
        exact HX5.out.put_out _ _

set_option maxRecDepth 100000 in
set_option maxHeartbeats 6400000 in
theorem rcalc_3yn (a b c d : Int) (w : World) (ha : noneS a b = false) (hc : noneS c d = false) (ys : List Int) (W0 : Bool) (hm : ∀ y, y ∈ ys → ¬ (3 = 3 ∧ y = 0) → may 3 a y ∧ may 3 b y) (hl4 : ys.length ≤ 4)
    (h1 : hasS c d 1 = true) (h2 : hasS c d (-1) = false) (hys : ys = [c, d] ++ [1]) (hW0 : hasS c d 0 = W0) :
    Calls Tryd.prog 6 #[.int .i64 3, .agg #[.int .i64 a, .int .i64 b], .agg #[.int .i64 c, .int .i64 d]] w
      (RetCalc (hullL (fun j => (rEnds 3 a b ys).getD j 0) (rEnds 3 a b ys).length) (hullH (fun j => (rEnds 3 a b ys).getD j 0) (rEnds 3 a b ys).length) (rwB (rC 3 a b ys) W0 ys.length) w) := by
  have HX := Lib.hid (rboxes_new w a b c d 0 0)
  have HM := Lib.hid (hm)
  have HYS := Lib.hid hys
  have HW0 := Lib.hid hW0
  clear hm hys hW0
  obtain ⟨i0, hi, hi0, hi1, hi2⟩ := info_parts info3
  go_enter Tryd.func6, Tryd.ntmps6
  go_upto_region 10 with (first
    | (go_at_call 18; ((with_reducible refine (rnone_any a b _).mono ?_); rintro e w1 ⟨rfl, hb1⟩); have HX1 := Lib.hid (HX.out.below hb1); clear hb1; obtain ⟨⟨z0, p0, p1, f0, f1⟩, ⟨z1, q0, q1, g0, g1⟩, ⟨z2, r0, r1, e0, e1⟩, -⟩ := HX1.out)
    | (go_at_call 18; ((with_reducible refine (rnone_any c d _).mono ?_); rintro e w2 ⟨rfl, hb2⟩); have HX2 := Lib.hid (HX1.out.below hb2); have HY := Lib.hid (ylit w2 c d); clear hb2; clear z0 p0 p1 f0 f1 z1 q0 q1 g0 g1 z2 r0 r1 e0 e1; obtain ⟨⟨z0, p0, p1, f0, f1⟩, ⟨z1, q0, q1, g0, g1⟩, ⟨z2, r0, r1, e0, e1⟩, -⟩ := HX2.out)
    | (go_at_call 11; ((with_reducible refine (rhas_any c d (1) _).mono ?_); rintro e w3 ⟨rfl, hbn⟩); have HY1 := Lib.hid (ykeep HY.out.2 HY.out.1 hbn); have HX3 := Lib.hid (HX2.out.below HY1.out.2); clear hbn; clear z0 p0 p1 f0 f1 z1 q0 q1 g0 g1 z2 r0 r1 e0 e1; obtain ⟨⟨z0, p0, p1, f0, f1⟩, ⟨z1, q0, q1, g0, g1⟩, ⟨z2, r0, r1, e0, e1⟩, -⟩ := HX3.out)
    | (at_builtin; refine wpList_append_own _ rfl (.tmp 42) (.tmp 43) 33 rfl w2.heap.size 3 i0 (.int .i64 0) 1 8 Tryd.underlying33 hi hi0 hi1 hi2 rfl (by decide) _ _ _ rfl (HY1.out.1.alloc _) ⟨w3.heap.size, 0, none⟩ 1 1 [.int .i64 (1)] rfl rfl (news1 w3 _) (one1 _) (by unfold maxLen; simp) (by simp) (by have := HY1.out.2.size; simp; omega) ?_; intro v4 w4 hown' hgrow _; have HY2 := Lib.hid (ymore HY1.out.2 HY1.out.1 hown' hgrow); have HX4 := Lib.hid (HX2.out.below HY2.out.2); clear hown' hgrow; clear z0 p0 p1 f0 f1 z1 q0 q1 g0 g1 z2 r0 r1 e0 e1; obtain ⟨⟨z0, p0, p1, f0, f1⟩, ⟨z1, q0, q1, g0, g1⟩, ⟨z2, r0, r1, e0, e1⟩, -⟩ := HX4.out)
    | (go_at_call 11; ((with_reducible refine (rhas_any c d (-1) _).mono ?_); rintro e w5 ⟨rfl, hbn⟩); have HY3 := Lib.hid (ykeep HY2.out.2 HY2.out.1 hbn); have HX5 := Lib.hid (HX2.out.below HY3.out.2); clear hbn; clear z0 p0 p1 f0 f1 z1 q0 q1 g0 g1 z2 r0 r1 e0 e1; obtain ⟨⟨z0, p0, p1, f0, f1⟩, ⟨z1, q0, q1, g0, g1⟩, ⟨z2, r0, r1, e0, e1⟩, -⟩ := HX5.out)
    | (go_at_call 11; ((with_reducible refine (rhas_any c d (0) _).mono ?_); rintro e w6 ⟨rfl, hbn⟩); have HY5 := Lib.hid (ykeep HY3.out.2 HY3.out.1 hbn); have HX6 := Lib.hid (HX2.out.below HY5.out.2); clear hbn; clear z0 p0 p1 f0 f1 z1 q0 q1 g0 g1 z2 r0 r1 e0 e1; obtain ⟨⟨z0, p0, p1, f0, f1⟩, ⟨z1, q0, q1, g0, g1⟩, ⟨z2, r0, r1, e0, e1⟩, -⟩ := HX6.out))
  go_cut [8, 9, 10, 11] (fun v bv lv i wx => Ahead w a b c d ys W0 v bv lv i wx)
  case first =>
    go_wp2_with fail
    go_meet
    rw [HYS.out]
    simp only [HW0.out]
    exact ahead_mk HX2.out HY5.out
  case rest =>
    obtain ⟨hX, ⟨A, capY, rfl, hcapY, hIY⟩, rfl, rfl, rfl⟩ := hcut
    have HXc := Lib.hid hX
    have HI := Lib.hid hIY
    clear hX hIY HX HX1 HX2 HYS HW0
    try clear z0 p0 p1 f0 f1 z1 q0 q1 g0 g1 z2 r0 r1 e0 e1
    obtain ⟨⟨z0, p0, p1, f0, f1⟩, ⟨z1, q0, q1, g0, g1⟩, ⟨z2, r0, r1, e0, e1⟩, -⟩ := HXc.out
    go_wp2_with fail
    go_loopw [9, 10, 11] (fun bv lv i wr => RRound wc 3 a b ys W0 bv lv i wr) (fun _ _ i _ => ys.length - (intOf i).toNat)
    case atStart => exact ⟨0, Nat.zero_le _, rfl, rfl, World.ownsRow_nil _ _ _ _, Below.refl _ _⟩
    case round =>
      obtain ⟨k, hk, rfl, rfl, hown, hnx⟩ := hrel
      have HO := Lib.hid hown
      have HN := Lib.hid hnx
      clear hown hnx
      have HXr := Lib.hid (HXc.out.below HN.out)
      clear z0 p0 p1 f0 f1 z1 q0 q1 g0 g1 z2 r0 r1 e0 e1
      obtain ⟨⟨z0, p0, p1, f0, f1⟩, ⟨z1, q0, q1, g0, g1⟩, ⟨z2, r0, r1, e0, e1⟩, -⟩ := HXr.out
      by_cases hlt : k < ys.length
      · obtain ⟨yb, off, rfl, hbl, hcells⟩ := (HI.out.below HN.out) (by omega)
        obtain ⟨y, hy⟩ : ∃ y, ys.getD k 0 = y := ⟨_, rfl⟩
        have hcell : wr.cell? ⟨yb, off + k, none⟩ = some (.int .i64 y) := by rw [← hy]; exact hcells k hlt
        clear hcells
        have hlen := ends_len (rC_len 3 a b ys) k
        by_cases hz : y = 0
        · subst hz
          have HC := Lib.hid (show rC 3 a b ys k = [] from by unfold rC; rw [hy]; rfl)
          have HR := Lib.hid (rwB_nil (W0 := W0) HC.out)
          clear hy
          go_wp2_with fail
          go_quiet ((go_at_call 19; exact qzero _ _ _))
          go_wp2_with fail
          go_quiet ((go_at_call 19; first | exact qzero2 _ _ _ _ | exact qzero _ _ _))
          go_wp2_with fail
          have HL := fun n => rless (n := n) HN.out HO.out HC.out
          have HL' := Lib.hid HL
          clear HL
          go_roundw
          case rel => exact ⟨k + 1, by omega, by go_num, by rw [HR.out], (HL'.out _).1, (HL'.out _).2⟩
          case measure => simp [intOf]; omega
        · have hm12 := HM.out y (by rw [← hy]; exact getD_in hlt) (fun h => hz h.2)
          have M1 := Lib.hid hm12.1
          have M2 := Lib.hid hm12.2
          have HC := Lib.hid (show rC 3 a b ys k = [oneR 3 a y, oneR 3 b y] from by unfold rC; rw [hy, if_neg (fun h => hz h.2)])
          have hR := rwB_two (W0 := W0) HC.out
          clear hm12 hz hy
          cases hW : rwB (rC 3 a b ys) W0 k
          · rw [hW] at hR
            cases hb : inB (oneR 3 a y)
            · rw [hb] at hR
              have HR := Lib.hid hR
              clear hR hW
              go_wp2_with fail
              go_quiet ((go_at_call 19; exact qone M1.out _ _))
              go_wp2_with fail
              go_quiet ((go_at_call 19; first | exact qone2 M2.out _ _ _ | exact qone M2.out _ _))
              go_wp2_with (first
                | (go_at_call 20; ((with_reducible refine (rin_any _ _).mono ?_); rintro e w' ⟨rfl, rfl⟩))
                | (at_builtin; refine wpList_append_own _ rfl (.tmp 92) (.tmp 95) 33 rfl wc.heap.size 3 i0 (.int .i64 0) 1 8 Tryd.underlying33 hi hi0 hi1 hi2 rfl (by decide) _ _ _ rfl (own_drewN (HO.out.alloc _) _) ⟨wr.heap.size, 0, none⟩ 2 2 [.int .i64 (oneR 3 a y), .int .i64 (oneR 3 b y)] rfl rfl (news2q wr _ _ _) (one2 _ _) (by unfold maxLen; omega) (by omega) (by have := HN.out.size; simp; omega) ?_; intro v' w4 hown' hgrow _; have HO4 := Lib.hid (rmore HN.out HO.out HC.out hown' hgrow); clear hown' hgrow))
              go_roundw
              case rel => exact ⟨k + 1, by omega, by go_num, by rw [HR.out]; simp, HO4.out.1, HO4.out.2⟩
              case measure => simp [intOf]; omega
            · rw [hb] at hR
              have HR := Lib.hid hR
              clear hR hW
              go_wp2_with fail
              go_quiet ((go_at_call 19; exact qone M1.out _ _))
              go_wp2_with fail
              go_quiet ((go_at_call 19; first | exact qone2 M2.out _ _ _ | exact qone M2.out _ _))
              go_wp2_with (first
                | (go_at_call 20; ((with_reducible refine (rin_any _ _).mono ?_); rintro e w' ⟨rfl, rfl⟩))
                | (at_builtin; refine wpList_append_own _ rfl (.tmp 92) (.tmp 95) 33 rfl wc.heap.size 3 i0 (.int .i64 0) 1 8 Tryd.underlying33 hi hi0 hi1 hi2 rfl (by decide) _ _ _ rfl (own_drewN (HO.out.alloc _) _) ⟨wr.heap.size, 0, none⟩ 2 2 [.int .i64 (oneR 3 a y), .int .i64 (oneR 3 b y)] rfl rfl (news2q wr _ _ _) (one2 _ _) (by unfold maxLen; omega) (by omega) (by have := HN.out.size; simp; omega) ?_; intro v' w4 hown' hgrow _; have HO4 := Lib.hid (rmore HN.out HO.out HC.out hown' hgrow); clear hown' hgrow))
              go_roundw
              case rel => exact ⟨k + 1, by omega, by go_num, by rw [HR.out]; simp, HO4.out.1, HO4.out.2⟩
              case measure => simp [intOf]; omega
          · rw [hW] at hR
            have HR := Lib.hid hR
            clear hR hW
            go_wp2_with fail
            go_quiet ((go_at_call 19; exact qone M1.out _ _))
            go_wp2_with fail
            go_quiet ((go_at_call 19; first | exact qone2 M2.out _ _ _ | exact qone M2.out _ _))
            go_wp2_with (at_builtin; refine wpList_append_own _ rfl (.tmp 92) (.tmp 95) 33 rfl wc.heap.size 3 i0 (.int .i64 0) 1 8 Tryd.underlying33 hi hi0 hi1 hi2 rfl (by decide) _ _ _ rfl (own_drewN (HO.out.alloc _) _) ⟨wr.heap.size, 0, none⟩ 2 2 [.int .i64 (oneR 3 a y), .int .i64 (oneR 3 b y)] rfl rfl (news2q wr _ _ _) (one2 _ _) (by unfold maxLen; omega) (by omega) (by have := HN.out.size; simp; omega) ?_; intro v' w4 hown' hgrow _; have HO4 := Lib.hid (rmore HN.out HO.out HC.out hown' hgrow); clear hown' hgrow)
            go_roundw
            case rel => exact ⟨k + 1, by omega, by go_num, by rw [HR.out]; simp, HO4.out.1, HO4.out.2⟩
            case measure => simp [intOf]; omega
      · obtain rfl : k = ys.length := by omega
        go_wp2_with (first | (go_at_call 21; ((with_reducible refine (rhull_own _ HO.out (by have := ends_len (rC_len 3 a b ys) ys.length; omega)).mono ?_); rintro e w5 ⟨rfl, hb5⟩); have HX5 := Lib.hid (HXr.out.below hb5); clear z0 p0 p1 f0 f1 z1 q0 q1 g0 g1 z2 r0 r1 e0 e1; obtain ⟨⟨z0, p0, p1, f0, f1⟩, ⟨z1, q0, q1, g0, g1⟩, ⟨z2, r0, r1, e0, e1⟩, -⟩ := HX5.out))
        refine rpost_calc ?_ rfl ?_
        · simp [results, Tryd.results6, go_sem, r0, r1, rEnds]
        exact HX5.out.put_out _ _

set_option maxRecDepth 100000 in
set_option maxHeartbeats 6400000 in
theorem rcalc_3yy (a b c d : Int) (w : World) (ha : noneS a b = false) (hc : noneS c d = false) (ys : List Int) (W0 : Bool) (hm : ∀ y, y ∈ ys → ¬ (3 = 3 ∧ y = 0) → may 3 a y ∧ may 3 b y) (hl4 : ys.length ≤ 4)
    (h1 : hasS c d 1 = true) (h2 : hasS c d (-1) = true) (hys : ys = [c, d] ++ [1] ++ [-1]) (hW0 : hasS c d 0 = W0) :
    Calls Tryd.prog 6 #[.int .i64 3, .agg #[.int .i64 a, .int .i64 b], .agg #[.int .i64 c, .int .i64 d]] w
      (RetCalc (hullL (fun j => (rEnds 3 a b ys).getD j 0) (rEnds 3 a b ys).length) (hullH (fun j => (rEnds 3 a b ys).getD j 0) (rEnds 3 a b ys).length) (rwB (rC 3 a b ys) W0 ys.length) w) := by
  have HX := Lib.hid (rboxes_new w a b c d 0 0)
  have HM := Lib.hid (hm)
  have HYS := Lib.hid hys
  have HW0 := Lib.hid hW0
  clear hm hys hW0
  obtain ⟨i0, hi, hi0, hi1, hi2⟩ := info_parts info3
  go_enter Tryd.func6, Tryd.ntmps6
  go_upto_region 10 with (first
    | (go_at_call 18; ((with_reducible refine (rnone_any a b _).mono ?_); rintro e w1 ⟨rfl, hb1⟩); have HX1 := Lib.hid (HX.out.below hb1); clear hb1; obtain ⟨⟨z0, p0, p1, f0, f1⟩, ⟨z1, q0, q1, g0, g1⟩, ⟨z2, r0, r1, e0, e1⟩, -⟩ := HX1.out)
    | (go_at_call 18; ((with_reducible refine (rnone_any c d _).mono ?_); rintro e w2 ⟨rfl, hb2⟩); have HX2 := Lib.hid (HX1.out.below hb2); have HY := Lib.hid (ylit w2 c d); clear hb2; clear z0 p0 p1 f0 f1 z1 q0 q1 g0 g1 z2 r0 r1 e0 e1; obtain ⟨⟨z0, p0, p1, f0, f1⟩, ⟨z1, q0, q1, g0, g1⟩, ⟨z2, r0, r1, e0, e1⟩, -⟩ := HX2.out)
    | (go_at_call 11; ((with_reducible refine (rhas_any c d (1) _).mono ?_); rintro e w3 ⟨rfl, hbn⟩); have HY1 := Lib.hid (ykeep HY.out.2 HY.out.1 hbn); have HX3 := Lib.hid (HX2.out.below HY1.out.2); clear hbn; clear z0 p0 p1 f0 f1 z1 q0 q1 g0 g1 z2 r0 r1 e0 e1; obtain ⟨⟨z0, p0, p1, f0, f1⟩, ⟨z1, q0, q1, g0, g1⟩, ⟨z2, r0, r1, e0, e1⟩, -⟩ := HX3.out)
    | (at_builtin; refine wpList_append_own _ rfl (.tmp 42) (.tmp 43) 33 rfl w2.heap.size 3 i0 (.int .i64 0) 1 8 Tryd.underlying33 hi hi0 hi1 hi2 rfl (by decide) _ _ _ rfl (HY1.out.1.alloc _) ⟨w3.heap.size, 0, none⟩ 1 1 [.int .i64 (1)] rfl rfl (news1 w3 _) (one1 _) (by unfold maxLen; simp) (by simp) (by have := HY1.out.2.size; simp; omega) ?_; intro v4 w4 hown' hgrow _; have HY2 := Lib.hid (ymore HY1.out.2 HY1.out.1 hown' hgrow); have HX4 := Lib.hid (HX2.out.below HY2.out.2); clear hown' hgrow; clear z0 p0 p1 f0 f1 z1 q0 q1 g0 g1 z2 r0 r1 e0 e1; obtain ⟨⟨z0, p0, p1, f0, f1⟩, ⟨z1, q0, q1, g0, g1⟩, ⟨z2, r0, r1, e0, e1⟩, -⟩ := HX4.out)
    | (go_at_call 11; ((with_reducible refine (rhas_any c d (-1) _).mono ?_); rintro e w5 ⟨rfl, hbn⟩); have HY3 := Lib.hid (ykeep HY2.out.2 HY2.out.1 hbn); have HX5 := Lib.hid (HX2.out.below HY3.out.2); clear hbn; clear z0 p0 p1 f0 f1 z1 q0 q1 g0 g1 z2 r0 r1 e0 e1; obtain ⟨⟨z0, p0, p1, f0, f1⟩, ⟨z1, q0, q1, g0, g1⟩, ⟨z2, r0, r1, e0, e1⟩, -⟩ := HX5.out)
    | (at_builtin; refine wpList_append_own _ rfl (.tmp 51) (.tmp 52) 33 rfl w2.heap.size 3 i0 (.int .i64 0) 1 8 Tryd.underlying33 hi hi0 hi1 hi2 rfl (by decide) _ _ _ rfl (HY3.out.1.alloc _) ⟨w5.heap.size, 0, none⟩ 1 1 [.int .i64 (-1)] rfl rfl (news1 w5 _) (one1 _) (by unfold maxLen; simp) (by simp) (by have := HY3.out.2.size; simp; omega) ?_; intro v6 w6 hown' hgrow _; have HY4 := Lib.hid (ymore HY3.out.2 HY3.out.1 hown' hgrow); have HX6 := Lib.hid (HX2.out.below HY4.out.2); clear hown' hgrow; clear z0 p0 p1 f0 f1 z1 q0 q1 g0 g1 z2 r0 r1 e0 e1; obtain ⟨⟨z0, p0, p1, f0, f1⟩, ⟨z1, q0, q1, g0, g1⟩, ⟨z2, r0, r1, e0, e1⟩, -⟩ := HX6.out)
    | (go_at_call 11; ((with_reducible refine (rhas_any c d (0) _).mono ?_); rintro e w7 ⟨rfl, hbn⟩); have HY5 := Lib.hid (ykeep HY4.out.2 HY4.out.1 hbn); have HX7 := Lib.hid (HX2.out.below HY5.out.2); clear hbn; clear z0 p0 p1 f0 f1 z1 q0 q1 g0 g1 z2 r0 r1 e0 e1; obtain ⟨⟨z0, p0, p1, f0, f1⟩, ⟨z1, q0, q1, g0, g1⟩, ⟨z2, r0, r1, e0, e1⟩, -⟩ := HX7.out))
  go_cut [8, 9, 10, 11] (fun v bv lv i wx => Ahead w a b c d ys W0 v bv lv i wx)
  case first =>
    go_wp2_with fail
    go_meet
    rw [HYS.out]
    simp only [HW0.out]
    exact ahead_mk HX2.out HY5.out
  case rest =>
    obtain ⟨hX, ⟨A, capY, rfl, hcapY, hIY⟩, rfl, rfl, rfl⟩ := hcut
    have HXc := Lib.hid hX
    have HI := Lib.hid hIY
    clear hX hIY HX HX1 HX2 HYS HW0
    try clear z0 p0 p1 f0 f1 z1 q0 q1 g0 g1 z2 r0 r1 e0 e1
    obtain ⟨⟨z0, p0, p1, f0, f1⟩, ⟨z1, q0, q1, g0, g1⟩, ⟨z2, r0, r1, e0, e1⟩, -⟩ := HXc.out
    go_wp2_with fail
    go_loopw [9, 10, 11] (fun bv lv i wr => RRound wc 3 a b ys W0 bv lv i wr) (fun _ _ i _ => ys.length - (intOf i).toNat)
    case atStart => exact ⟨0, Nat.zero_le _, rfl, rfl, World.ownsRow_nil _ _ _ _, Below.refl _ _⟩
    case round =>
      obtain ⟨k, hk, rfl, rfl, hown, hnx⟩ := hrel
      have HO := Lib.hid hown
      have HN := Lib.hid hnx
      clear hown hnx
      have HXr := Lib.hid (HXc.out.below HN.out)
      clear z0 p0 p1 f0 f1 z1 q0 q1 g0 g1 z2 r0 r1 e0 e1
      obtain ⟨⟨z0, p0, p1, f0, f1⟩, ⟨z1, q0, q1, g0, g1⟩, ⟨z2, r0, r1, e0, e1⟩, -⟩ := HXr.out
      by_cases hlt : k < ys.length
      · obtain ⟨yb, off, rfl, hbl, hcells⟩ := (HI.out.below HN.out) (by omega)
        obtain ⟨y, hy⟩ : ∃ y, ys.getD k 0 = y := ⟨_, rfl⟩
        have hcell : wr.cell? ⟨yb, off + k, none⟩ = some (.int .i64 y) := by rw [← hy]; exact hcells k hlt
        clear hcells
        have hlen := ends_len (rC_len 3 a b ys) k
        by_cases hz : y = 0
        · subst hz
          have HC := Lib.hid (show rC 3 a b ys k = [] from by unfold rC; rw [hy]; rfl)
          have HR := Lib.hid (rwB_nil (W0 := W0) HC.out)
          clear hy
          go_wp2_with fail
          go_quiet ((go_at_call 19; exact qzero _ _ _))
          go_wp2_with fail
          go_quiet ((go_at_call 19; first | exact qzero2 _ _ _ _ | exact qzero _ _ _))
          go_wp2_with fail
          have HL := fun n => rless (n := n) HN.out HO.out HC.out
          have HL' := Lib.hid HL
          clear HL
          go_roundw
          case rel => exact ⟨k + 1, by omega, by go_num, by rw [HR.out], (HL'.out _).1, (HL'.out _).2⟩
          case measure => simp [intOf]; omega
        · have hm12 := HM.out y (by rw [← hy]; exact getD_in hlt) (fun h => hz h.2)
          have M1 := Lib.hid hm12.1
          have M2 := Lib.hid hm12.2
          have HC := Lib.hid (show rC 3 a b ys k = [oneR 3 a y, oneR 3 b y] from by unfold rC; rw [hy, if_neg (fun h => hz h.2)])
          have hR := rwB_two (W0 := W0) HC.out
          clear hm12 hz hy
          cases hW : rwB (rC 3 a b ys) W0 k
          · rw [hW] at hR
            cases hb : inB (oneR 3 a y)
            · rw [hb] at hR
              have HR := Lib.hid hR
              clear hR hW
              go_wp2_with fail
              go_quiet ((go_at_call 19; exact qone M1.out _ _))
              go_wp2_with fail
              go_quiet ((go_at_call 19; first | exact qone2 M2.out _ _ _ | exact qone M2.out _ _))
              go_wp2_with (first
                | (go_at_call 20; ((with_reducible refine (rin_any _ _).mono ?_); rintro e w' ⟨rfl, rfl⟩))
                | (at_builtin; refine wpList_append_own _ rfl (.tmp 92) (.tmp 95) 33 rfl wc.heap.size 3 i0 (.int .i64 0) 1 8 Tryd.underlying33 hi hi0 hi1 hi2 rfl (by decide) _ _ _ rfl (own_drewN (HO.out.alloc _) _) ⟨wr.heap.size, 0, none⟩ 2 2 [.int .i64 (oneR 3 a y), .int .i64 (oneR 3 b y)] rfl rfl (news2q wr _ _ _) (one2 _ _) (by unfold maxLen; omega) (by omega) (by have := HN.out.size; simp; omega) ?_; intro v' w4 hown' hgrow _; have HO4 := Lib.hid (rmore HN.out HO.out HC.out hown' hgrow); clear hown' hgrow))
              go_roundw
              case rel => exact ⟨k + 1, by omega, by go_num, by rw [HR.out]; simp, HO4.out.1, HO4.out.2⟩
              case measure => simp [intOf]; omega
            · rw [hb] at hR
              have HR := Lib.hid hR
              clear hR hW
              go_wp2_with fail
              go_quiet ((go_at_call 19; exact qone M1.out _ _))
              go_wp2_with fail
              go_quiet ((go_at_call 19; first | exact qone2 M2.out _ _ _ | exact qone M2.out _ _))
              go_wp2_with (first
                | (go_at_call 20; ((with_reducible refine (rin_any _ _).mono ?_); rintro e w' ⟨rfl, rfl⟩))
                | (at_builtin; refine wpList_append_own _ rfl (.tmp 92) (.tmp 95) 33 rfl wc.heap.size 3 i0 (.int .i64 0) 1 8 Tryd.underlying33 hi hi0 hi1 hi2 rfl (by decide) _ _ _ rfl (own_drewN (HO.out.alloc _) _) ⟨wr.heap.size, 0, none⟩ 2 2 [.int .i64 (oneR 3 a y), .int .i64 (oneR 3 b y)] rfl rfl (news2q wr _ _ _) (one2 _ _) (by unfold maxLen; omega) (by omega) (by have := HN.out.size; simp; omega) ?_; intro v' w4 hown' hgrow _; have HO4 := Lib.hid (rmore HN.out HO.out HC.out hown' hgrow); clear hown' hgrow))
              go_roundw
              case rel => exact ⟨k + 1, by omega, by go_num, by rw [HR.out]; simp, HO4.out.1, HO4.out.2⟩
              case measure => simp [intOf]; omega
          · rw [hW] at hR
            have HR := Lib.hid hR
            clear hR hW
            go_wp2_with fail
            go_quiet ((go_at_call 19; exact qone M1.out _ _))
            go_wp2_with fail
            go_quiet ((go_at_call 19; first | exact qone2 M2.out _ _ _ | exact qone M2.out _ _))
            go_wp2_with (at_builtin; refine wpList_append_own _ rfl (.tmp 92) (.tmp 95) 33 rfl wc.heap.size 3 i0 (.int .i64 0) 1 8 Tryd.underlying33 hi hi0 hi1 hi2 rfl (by decide) _ _ _ rfl (own_drewN (HO.out.alloc _) _) ⟨wr.heap.size, 0, none⟩ 2 2 [.int .i64 (oneR 3 a y), .int .i64 (oneR 3 b y)] rfl rfl (news2q wr _ _ _) (one2 _ _) (by unfold maxLen; omega) (by omega) (by have := HN.out.size; simp; omega) ?_; intro v' w4 hown' hgrow _; have HO4 := Lib.hid (rmore HN.out HO.out HC.out hown' hgrow); clear hown' hgrow)
            go_roundw
            case rel => exact ⟨k + 1, by omega, by go_num, by rw [HR.out]; simp, HO4.out.1, HO4.out.2⟩
            case measure => simp [intOf]; omega
      · obtain rfl : k = ys.length := by omega
        go_wp2_with (first | (go_at_call 21; ((with_reducible refine (rhull_own _ HO.out (by have := ends_len (rC_len 3 a b ys) ys.length; omega)).mono ?_); rintro e w5 ⟨rfl, hb5⟩); have HX5 := Lib.hid (HXr.out.below hb5); clear z0 p0 p1 f0 f1 z1 q0 q1 g0 g1 z2 r0 r1 e0 e1; obtain ⟨⟨z0, p0, p1, f0, f1⟩, ⟨z1, q0, q1, g0, g1⟩, ⟨z2, r0, r1, e0, e1⟩, -⟩ := HX5.out))
        refine rpost_calc ?_ rfl ?_
        · simp [results, Tryd.results6, go_sem, r0, r1, rEnds]
        exact HX5.out.put_out _ _
end Go.Proofs.YtkgdonoilpkiiaaDoor
