/- Put together of: Widened, WidenFn, ZWiden, ZWidenAny, MovF, MovM, Movers, ZWide. -/
import Derived.Test.YtlkbapcienjdcaaDoorWidensMathZ
import Derived.Test.YtlkbapcienjdcaaDoorGSmall
import Derived.Test.YtlkbapcienjdcaaDoorGSp
import Derived.Test.YtlkbapcienjdcaaDoorGRef
import Derived.BigRegion
import Derived.Deep.RegionHeld3
import Derived.Deep.RegionLaw
import Derived.Maps.AppendAt
import Derived.Deep.LoopGhost
import Derived.Test.YtlkbapcienjdcaaDoorGMoves
import Derived.Test.YtlkbapcienjdcaaDoorGSets
import Derived.Test.YtlkbapcienjdcaaDoorGHas
import Derived.Test.YtlkbapcienjdcaaDoorSame
import Derived.Test.YtlkbapcienjdcaaDoorGSettle
import Derived.Deep.RegionHeld
/- The contract of the program's widened: the spans of two right zones, widened. -/
namespace Go.Proofs.YtlkbapcienjdcaaDoor
open Go.RowKit
attribute [local go_sem ↓] Go.wp_at_zero Go.wp_at_succ

section
variable {P : Program} {w : World}
theorem wp_append_at {o : Oper} {a : Act} {K : Act → World → Prop} {Q : Exit → Act → World → Prop} (s x : Operand) (t : TypeId)
    (ho : o.op = .call { callee := .builtin .append, args := #[s, x], argTypes := #[t, t] })
    (base : Nat) (e : TypeId) (i : TypeInfo) (z : Value) (size bytes : Nat) (ht : P.underlying t = some (.slice e)) (hi : P.info? e = some i) (hz : i.zero = some z)
    (hsize : i.size = size) (hby : i.bytes = bytes) (hzs : z.cells.size = size) (hsz : 0 < size)
    (v : Value) (n : Nat) (xs : List Value) (hs : a.eval s = v) (hown : w.ownsRow base e size v n xs)
    (ad : Addr) (m c : Nat) (news : List Value) (hx : a.eval x = .slice (some ad) m c) (hl : news.length = m * size) (hnews : ∀ j u, news[j]? = some u → w.cell? (ad.add j) = some u) (h1 : ∀ u ∈ news, u.oneCell' = true)
    (h63 : n + m ≤ maxLen) (hbytes : (n + m) * bytes ≤ 140737488355328) (hbase : base ≤ w.heap.size)
    (h : ∀ v' w', w'.ownsRow base e size v' (n + m) (xs ++ news) → w.grownBy w' v.ownBlock → (v'.ownBlock = v.ownBlock ∨ v'.ownBlock = some w.heap.size) → K (a.put o.dst v') w') : o.wp P a w K Q := by
  obtain ⟨v', w', hrun, h2, h3, _, h4⟩ := run_append_own_at (P := P) w base t o.type e i z size bytes ht hi hz hsize hby hzs hsz v n xs hown ad m c news hl hnews h1 h63 hbytes hbase
  unfold Oper.wp execOp
  simp only [ho, resolve, invoke, builtin, Sem.run_bind, Sem.run_pure, Result.andThen_ok, List.map_toArray, List.map_cons, List.map_nil, hs, hx, hrun]
  exact h v' w' h2 h3 h4
end
theorem step_append_at {P : Program} {w : World} {ops : Array Oper} {o : Oper} {a : Act} {K : Act → World → Prop} {Q : Exit → Act → World → Prop} {E : Prop} (hgd : o.guard = none) (s x : Operand) (t : TypeId)
    (ho : o.op = .call { callee := .builtin .append, args := #[s, x], argTypes := #[t, t] })
    (base : Nat) (e : TypeId) (i : TypeInfo) (z : Value) (size bytes : Nat) (ht : P.underlying t = some (.slice e)) (hi : P.info? e = some i) (hz : i.zero = some z)
    (hsize : i.size = size) (hby : i.bytes = bytes) (hzs : z.cells.size = size) (hsz : 0 < size)
    (v : Value) (n : Nat) (xs : List Value) (hs : a.eval s = v) (hown : w.ownsRow base e size v n xs)
    (ad : Addr) (m c : Nat) (news : List Value) (hx : a.eval x = .slice (some ad) m c) (hl : news.length = m * size) (hnews : ∀ j u, news[j]? = some u → w.cell? (ad.add j) = some u) (h1 : ∀ u ∈ news, u.oneCell' = true)
    (h63 : n + m ≤ maxLen) (hbytes : (n + m) * bytes ≤ 140737488355328) (hbase : base ≤ w.heap.size)
    (h : ∀ v' w', w'.ownsRow base e size v' (n + m) (xs ++ news) → w.grownBy w' v.ownBlock → (v'.ownBlock = v.ownBlock ∨ v'.ownBlock = some w.heap.size) → K (a.put o.dst v') w') :
    if Region.wanted o (yielded ops a.tmps) = true then Oper.wp P o a w K Q else E := by
  have hw : Region.wanted o (yielded ops a.tmps) = true := by simp [Region.wanted, hgd]
  rw [if_pos hw]
  exact wp_append_at s x t ho base e i z size bytes ht hi hz hsize hby hzs hsz v n xs hs hown ad m c news hx hl hnews h1 h63 hbytes hbase h
theorem sinfo : (Tryd.prog.info? 55).map (fun i => (i.zero, i.size, i.bytes)) = some (some (.agg #[.int .i64 0, .int .i64 0]), 2, 16) := by kernel_rfl
/-- The cells of the first k spans. -/
def cellsW (f : Nat → Int) (n : Nat) (C B : Mat) : Nat → List Value
  | 0 => []
  | k + 1 => cellsW f n C B k ++ [.int .i64 (wL f n C B k), .int .i64 (wH f n C B k)]
/-- While widened goes: both boxes, the steps, the row so far. -/
structure WD (w : World) (m : Nat) (ga ca gb cb : Nat) (C B : Mat) (S : Option Addr) (n : Nat) (f : Nat → Int) (v : Value) (k : Nat) (W : World) : Prop where
  low : Below w.heap.size w W
  za : Duo W w.heap.size 39 (.int .i64 ((m : Int) - 1)) (.slice (some ⟨ga, 0, none⟩) (m * m) ca)
  zb : Duo W (w.heap.size + 1) 39 (.int .i64 ((m : Int) - 1)) (.slice (some ⟨gb, 0, none⟩) (m * m) cb)
  row : W.ownsRow (w.heap.size + 2) 55 2 v k (cellsW f n C B k)
theorem WD.below {w W W1 : World} {m ga ca gb cb n k : Nat} {C B : Mat} {S : Option Addr} {f : Nat → Int} {v : Value} (h : WD w m ga ca gb cb C B S n f v k W) (hb : Below W.heap.size W W1) : WD w m ga ca gb cb C B S n f v k W1 :=
  ⟨h.low.trans (hb.mono h.low.size), h.za.below hb, h.zb.below hb, own_kept_below h.row hb⟩
theorem WD.add {w W W1 : World} {m ga ca gb cb n k : Nat} {C B : Mat} {S : Option Addr} {f : Nat → Int} {v v1 : Value} {o : Obj} (h : WD w m ga ca gb cb C B S n f v k W) (ho : W1.ownsRow (w.heap.size + 2) 55 2 v1 (k + 1) (cellsW f n C B k ++ [.int .i64 (wL f n C B k), .int .i64 (wH f n C B k)])) (hg : (W.alloc o).grownBy W1 v.ownBlock) : WD w m ga ca gb cb C B S n f v1 (k + 1) W1 := by
  have h1 := h.below (zboxed W o)
  have hr := h1.row.lt
  exact ⟨h1.low.grown hg h1.low.size (fun q e => by have := (hr q e).1; omega), h1.za.kept hg (fun e => by have := (hr _ e.symm).1; omega), h1.zb.kept hg (fun e => by have := (hr _ e.symm).1; omega), ho⟩
theorem news_two (W : World) (l h : Int) (t : TypeId) : ∀ (j : Nat) (u : Value), [Value.int .i64 l, .int .i64 h][j]? = some u → (W.alloc (.cells #[.int .i64 l, .int .i64 h] t)).cell? ((⟨W.heap.size, 0, none⟩ : Addr).add j) = some u := fun j u hu => by
  have hh := World.alloc_heap_new W (.cells #[.int .i64 l, .int .i64 h] t)
  generalize W.alloc (.cells #[.int .i64 l, .int .i64 h] t) = W1 at *
  match j, hu with
  | 0, hu => simp at hu; subst hu; simp [World.cell?, Addr.add, hh]
  | 1, hu => simp at hu; subst hu; simp [World.cell?, Addr.add, hh]
  | k + 2, hu => simp at hu
theorem WD.zs {w W : World} {m ga ca gb cb n k : Nat} {C B : Mat} {S : Option Addr} {f : Nat → Int} {v : Value} (h : WD w m ga ca gb cb C B S n f v k W) : (W.cell? ⟨w.heap.size, 0, none⟩ = some (.int .i64 ((m : Int) - 1)) ∧ W.cell? ⟨w.heap.size, 1, none⟩ = some (.slice (some ⟨ga, 0, none⟩) (m * m) ca)) ∧ W.cell? ⟨w.heap.size + 1, 0, none⟩ = some (.int .i64 ((m : Int) - 1)) ∧ W.cell? ⟨w.heap.size + 1, 1, none⟩ = some (.slice (some ⟨gb, 0, none⟩) (m * m) cb) := ⟨⟨h.za.cell0, h.za.cell1⟩, h.zb.cell0, h.zb.cell1⟩
theorem two_one (l h : Int) : ∀ u ∈ [Value.int .i64 l, .int .i64 h], u.oneCell' = true := fun u hu => by
  simp at hu
  rcases hu with rfl | rfl <;> rfl
def RetWd (w : World) (m : Nat) (C B : Mat) (n : Nat) (f : Nat → Int) (e : Ending) (w' : World) : Prop := ∃ v, e = .returned v ∧ w'.ownsRow w.heap.size 55 2 v m (cellsW f n C B m) ∧ Below w.heap.size w w'
set_option maxRecDepth 100000 in
set_option maxHeartbeats 6400000 in
theorem widened_any {w : World} {m ga ca gb cb base n cap : Nat} {C B : Mat} {S : Option Addr} {f : Nat → Int} (h0 : 0 < m) (h7 : m ≤ 7) (hC : Closed m C) (hB : Closed m B) (hn : n ≤ 9223372036854775807)
    (oa : w.ownsRow base 3 1 (.slice (some ⟨ga, 0, none⟩) (m * m) ca) (m * m) ((flatL m C).map (Value.int .i64))) (ob : w.ownsRow base 3 1 (.slice (some ⟨gb, 0, none⟩) (m * m) cb) (m * m) ((flatL m B).map (Value.int .i64))) (hS : Sp.Ints w S n f) :
    Calls Tryd.prog 65 #[zoneV ((m : Int) - 1) (some ⟨ga, 0, none⟩) (m * m) ca, zoneV ((m : Int) - 1) (some ⟨gb, 0, none⟩) (m * m) cb, .slice S n cap] w (RetWd w m C B n f) := by
  obtain ⟨i0, hi0, hz0, hz1, hz2⟩ := info_parts sinfo
  have hA : ∀ k, k < m → ∀ W, Below w.heap.size w W → Calls Tryd.prog 77 #[zoneV ((m : Int) - 1) (some ⟨ga, 0, none⟩) (m * m) ca, .int .i64 (k : Int)] W (RetSpan (-C 0 k) (C k 0) W) := fun k hk W hb => by
    have q := zspan_any h7 h0 hk hC (own_kept_below oa hb)
    have c := closed_span hC h0 hk
    rcases of_cases (-C 0 k) (C k 0) with ⟨_, e1, e2⟩ | ⟨e, _, _⟩
    · rw [e1, e2, show max (-C 0 k) (-1152921504606846976) = -C 0 k by omega, show min (C k 0) 1152921504606846976 = C k 0 by omega] at q
      exact q
    · omega
  have hBk : ∀ k, k < m → ∀ W, Below w.heap.size w W → Calls Tryd.prog 77 #[zoneV ((m : Int) - 1) (some ⟨gb, 0, none⟩) (m * m) cb, .int .i64 (k : Int)] W (RetSpan (-B 0 k) (B k 0) W) := fun k hk W hb => by
    have q := zspan_any h7 h0 hk hB (own_kept_below ob hb)
    have c := closed_span hB h0 hk
    rcases of_cases (-B 0 k) (B k 0) with ⟨_, e1, e2⟩ | ⟨e, _, _⟩
    · rw [e1, e2, show max (-B 0 k) (-1152921504606846976) = -B 0 k by omega, show min (B k 0) 1152921504606846976 = B k 0 by omega] at q
      exact q
    · omega
  have hW : ∀ k W, Below w.heap.size w W → Calls Tryd.prog 76 #[.agg #[.int .i64 (-C 0 k), .int .i64 (C k 0)], .agg #[.int .i64 (-B 0 k), .int .i64 (B k 0)], .slice S n cap] W (Sp.RetSpan (wL f n C B k) (wH f n C B k) W) := fun k W hb => Sp.widen_any f _ _ _ _ S n cap W hn (hS.below hb)
  have HA := Lib.hid hA
  have HB := Lib.hid hBk
  have HW := Lib.hid hW
  have H0 := Lib.hid h0
  have H7 := Lib.hid h7
  have T : Hid (WD w m ga ca gb cb C B S n f (.slice none 0 0) 0 ((w.alloc (.cells #[.int .i64 ((m : Int) - 1), .slice (some ⟨ga, 0, none⟩) (m * m) ca] 39)).alloc (.cells #[.int .i64 ((m : Int) - 1), .slice (some ⟨gb, 0, none⟩) (m * m) cb] 39))) := Lib.hid (by
    have k1 := Duo.new (w.alloc (.cells #[.int .i64 ((m : Int) - 1), .slice (some ⟨ga, 0, none⟩) (m * m) ca] 39)) 39 (.int .i64 ((m : Int) - 1)) (.slice (some ⟨gb, 0, none⟩) (m * m) cb)
    rw [World.size_alloc] at k1
    exact ⟨((Below.refl _ w).alloc (Nat.le_refl _) _).alloc (by simp) _, (Duo.new w _ _ _).alloc _, k1, ⟨rfl, .inl ⟨rfl, rfl⟩⟩⟩)
  have hw0 : IntKind.i64.wrap (m : Int) = (m : Int) := IntWalk.i64_in _ (by omega)
  clear oa ob hS hA hBk hW hC hB
  go_enter Tryd.func65, Tryd.ntmps65
  go_wp2_with fail
  go_loopg [7, 12] m (fun gk s t wr => ∃ (k : Nat) (v : Value), k + gk = m ∧ t = .int .i64 (k : Int) ∧ v = s ∧ WD w m ga ca gb cb C B S n f v k wr)
  case atStart => exact ⟨0, _, by omega, rfl, rfl, T.out⟩
  case round =>
    rename Nat => g0
    obtain ⟨k, v, hk', rfl, rfl, hD⟩ := hrel
    have HK := Lib.hid hk'
    have X := Lib.hid hD
    clear hk' hD T
    by_cases hkm : k < m
    · have d4 : decide ((k : Int) < (m : Int)) = true := decide_eq_true (by omega)
      have HAk := Lib.hid (HA.out k hkm)
      have HBk := Lib.hid (HB.out k hkm)
      have HWk := Lib.hid (HW.out k)
      have HN : Hid (cellsW f n C B k ++ [.int .i64 (wL f n C B k), .int .i64 (wH f n C B k)] = cellsW f n C B (k + 1)) := Lib.hid rfl
      have wk : IntKind.i64.wrap ((k : Int) + 1) = (k : Int) + 1 := IntWalk.i64_in _ (by have := H7.out; omega)
      have HM : Hid (k + 1 ≤ maxLen ∧ (k + 1) * 16 ≤ 140737488355328) := Lib.hid (by have := H7.out; unfold maxLen; omega)
      obtain ⟨l, hl⟩ : ∃ x, wL f n C B k = x := ⟨_, rfl⟩
      obtain ⟨h, hh⟩ : ∃ x, wH f n C B k = x := ⟨_, rfl⟩
      have HAdd : Hid (∀ W W1 v1 o, WD w m ga ca gb cb C B S n f v k W → W1.ownsRow (w.heap.size + 2) 55 2 v1 (k + 1) (cellsW f n C B k ++ [.int .i64 l, .int .i64 h]) → (W.alloc o).grownBy W1 v.ownBlock → WD w m ga ca gb cb C B S n f v1 (k + 1) W1) := Lib.hid (by
        rw [← hl, ← hh]
        exact fun W W1 v1 o a b c => a.add b c)
      rw [hl, hh] at HWk
      clear HN hl hh
      have CUR := Lib.hid (X.out.below (Below.refl _ _).drew)
      go_wp2_with fail
      go_region_held3 (fun w' => (w'.cell? ⟨w.heap.size, 0, none⟩ = some (.int .i64 ((m : Int) - 1)) ∧ w'.cell? ⟨w.heap.size, 1, none⟩ = some (.slice (some ⟨ga, 0, none⟩) (m * m) ca)) ∧ w'.cell? ⟨w.heap.size + 1, 0, none⟩ = some (.int .i64 ((m : Int) - 1)) ∧ w'.cell? ⟨w.heap.size + 1, 1, none⟩ = some (.slice (some ⟨gb, 0, none⟩) (m * m) cb))
        (first | (with_reducible exact CUR.out.zs) | (with_reducible exact X6.out.zs) | (with_reducible exact R6.out.zs) | (with_reducible exact X7.out.zs))
        (first
        | (go_at_call 77; have hb := CUR.out.low; ((with_reducible refine (HAk.out _ hb).mono ?_); rintro e w4 ⟨rfl, hb3⟩); have CUR := Lib.hid (CUR.out.below hb3); clear hb hb3)
        | (go_at_call 77; have hb := CUR.out.low; ((with_reducible refine (HBk.out _ hb).mono ?_); rintro e w4 ⟨rfl, hb3⟩); have CUR := Lib.hid (CUR.out.below hb3); clear hb hb3)
        | (go_at_call 76; have hb := CUR.out.low; ((with_reducible refine (HWk.out _ hb).mono ?_); rintro e w6 ⟨rfl, hb3⟩); have X6 := Lib.hid (CUR.out.below hb3); have R6 := Lib.hid (X6.out.below (zboxed w6 (.cells #[.int .i64 l, .int .i64 h] 55))); have N6 := Lib.hid (news_two w6 l h 55); clear hb hb3)
        | (refine step_append_at rfl (.tmp 15) (.tmp 24) 86 rfl (w.heap.size + 2) 55 i0 (.agg #[.int .i64 0, .int .i64 0]) 2 16 Tryd.underlying86 hi0 hz0 hz1 hz2 rfl (by decide) v k (cellsW f n C B k) (by simp [Act.eval]) R6.out.row ⟨w6.heap.size, 0, none⟩ 1 1 [.int .i64 l, .int .i64 h] (by simp [Act.eval]) rfl N6.out (two_one l h) HM.out.1 HM.out.2 R6.out.zb.lt ?_; intro v7 w7 ho7 hg7 hl7; have X7 := Lib.hid (HAdd.out _ _ _ _ X6.out ho7 hg7); clear ho7 hg7 hl7))
      all_goals go_wp2_with fail
      all_goals
        have hk' := HK.out
        go_roundg (g0 - 1)
        case measure => omega
        case rel => exact ⟨k + 1, _, by omega, by simp, rfl, X7.out⟩
    · have d4 : decide ((k : Int) < (m : Int)) = false := decide_eq_false (by omega)
      have hke : k = m := by have := HK.out; omega
      subst hke
      go_wp2_with fail
      go_ret
      exact ⟨_, rfl, own_lower X.out.row (by omega), X.out.low⟩
end Go.Proofs.YtlkbapcienjdcaaDoor

/- The contract of the closure by which the program's Widen fills a matrix in. -/
namespace Go.Proofs.YtlkbapcienjdcaaDoor
open Go.RowKit
attribute [local go_sem ↓] Go.wp_at_zero Go.wp_at_succ

set_option maxRecDepth 100000 in
set_option maxHeartbeats 3200000 in
theorem widen_fn {m r c : Nat} (hm7 : m ≤ 7) (hr : r < m) (hc : c < m) {q1 q2 p gs cs gm cm g c1 base n : Nat} {C B : Mat} {f : Nat → Int} {mv : Nat → Bool} {W : World}
    (h1 : Boxed W q1 86 (.slice (some ⟨gs, 0, none⟩) m cs)) (h2 : Boxed W q2 88 (.slice (some ⟨gm, 0, none⟩) m cm)) (h3 : Duo W p 39 (.int .i64 ((m : Int) - 1)) (.slice (some ⟨g, 0, none⟩) (m * m) c1))
    (hs : ∀ k, k < m → W.cell? ⟨gs, k * 2, none⟩ = some (.int .i64 (wL f n C B k)) ∧ W.cell? ⟨gs, k * 2 + 1, none⟩ = some (.int .i64 (wH f n C B k)) ∧ gs < W.heap.size) (hmv : ∀ k, k < m → W.cell? ⟨gm, k, none⟩ = some (.bool (mv k)) ∧ gm < W.heap.size)
    (hb : ∀ k, k < m → -1152921504606846976 ≤ wL f n C B k ∧ wL f n C B k ≤ 1152921504606846976)
    (o1 : W.ownsRow base 3 1 (.slice (some ⟨g, 0, none⟩) (m * m) c1) (m * m) ((flatL m C).map (Value.int .i64))) :
    Calls Tryd.prog 67 #[.int .i64 (r : Int), .int .i64 (c : Int), .pointer (some ⟨q1, 0, none⟩), .pointer (some ⟨q2, 0, none⟩), .pointer (some ⟨p, 0, none⟩)] W (ZRetInt (prM mv f n C B r c) W) := by
  have x0 := h1.cell
  have x1 := h1.lt
  have x2 := h2.cell
  have x3 := h2.lt
  have x4 := h3.cell0
  have x5 := h3.cell1
  have x6 := h3.lt
  have hrl : (r : Int) < (m : Int) := by omega
  have hcl : (c : Int) < (m : Int) := by omega
  obtain ⟨y0, y1, y2⟩ := hs r hr
  obtain ⟨y3, y4, y5⟩ := hs c hc
  obtain ⟨z0, z1⟩ := hmv r hr
  obtain ⟨z2, z3⟩ := hmv c hc
  have bc := hb c hc
  have wn : IntKind.i64.wrap (-wL f n C B c) = -wL f n C B c := IntWalk.i64_in _ (by omega)
  have HA := Lib.hid (at_own hm7 hr hc o1)
  by_cases e1 : c = 0
  · have b1 : ((c : Int) == 0) = true := by simp; omega
    have b2 : decide (c = 0) = true := decide_eq_true e1
    rw [show prM mv f n C B r c = wH f n C B r from if_pos e1]
    generalize wH f n C B r = v at *
    clear o1 hs hmv hb e1
    go_enter Tryd.func67, Tryd.ntmps67
    go_wp2_with fail
    go_ret
    exact ⟨rfl, Below.refl _ _⟩
  · have b1 : ((c : Int) == 0) = false := by simp; omega
    have b2 : decide (c = 0) = false := decide_eq_false e1
    by_cases e2 : r = 0
    · have b3 : ((r : Int) == 0) = true := by simp; omega
      have b4 : decide (r = 0) = true := decide_eq_true e2
      rw [show prM mv f n C B r c = -wL f n C B c from (if_neg e1).trans (if_pos e2)]
      generalize wL f n C B c = v at *
      clear o1 hs hmv hb e1 e2
      go_enter Tryd.func67, Tryd.ntmps67
      go_wp2_with fail
      go_ret
      exact ⟨rfl, Below.refl _ _⟩
    · have b3 : ((r : Int) == 0) = false := by simp; omega
      have b4 : decide (r = 0) = false := decide_eq_false e2
      rw [show prM mv f n C B r c = if (mv r || mv c) = true then 4611686018427387904 else C r c from (if_neg e1).trans (if_neg e2)]
      cases q1 : mv r
      · cases q2 : mv c
        · rw [if_neg (by decide)]
          rw [q1] at z0
          rw [q2] at z2
          generalize C r c = v at *
          clear o1 hs hmv hb e1 e2
          go_enter Tryd.func67, Tryd.ntmps67
          go_wp2_with (go_at_call 53; ((with_reducible refine HA.out.mono ?_); rintro e w1 ⟨rfl, hb1⟩))
          go_ret
          exact ⟨rfl, hb1⟩
        · rw [if_pos (by decide)]
          rw [q1] at z0
          rw [q2] at z2
          clear o1 hs hmv hb e1 e2
          go_enter Tryd.func67, Tryd.ntmps67
          go_wp2_with fail
          go_ret
          exact ⟨rfl, Below.refl _ _⟩
      · rw [if_pos (by simp)]
        rw [q1] at z0
        clear o1 hs hmv hb e1 e2
        go_enter Tryd.func67, Tryd.ntmps67
        go_wp2_with fail
        go_ret
        exact ⟨rfl, Below.refl _ _⟩
end Go.Proofs.YtlkbapcienjdcaaDoor

/- The contract of the program's Widen of two right zones with points, where the second is not in the first; given that of movers. -/
namespace Go.Proofs.YtlkbapcienjdcaaDoor
open Go.RowKit
attribute [local go_sem ↓] Go.wp_at_zero Go.wp_at_succ

theorem cellsW_len (f : Nat → Int) (n : Nat) (C B : Mat) (k : Nat) : (cellsW f n C B k).length = 2 * k := by
  induction k with
  | zero => rfl
  | succ k ih => show (cellsW f n C B k ++ _).length = _; rw [List.length_append, ih]; simp; omega
theorem cellsW_at (f : Nat → Int) (n : Nat) (C B : Mat) {k j : Nat} (h : j < k) : (cellsW f n C B k)[j * 2]? = some (.int .i64 (wL f n C B j)) ∧ (cellsW f n C B k)[j * 2 + 1]? = some (.int .i64 (wH f n C B j)) := by
  induction k with
  | zero => exact absurd h (Nat.not_lt_zero _)
  | succ k ih =>
    have hl := cellsW_len f n C B k
    show (cellsW f n C B k ++ [_, _])[j * 2]? = _ ∧ (cellsW f n C B k ++ [_, _])[j * 2 + 1]? = _
    by_cases e : j = k
    · subst e
      rw [List.getElem?_append_right (by omega), List.getElem?_append_right (by omega), hl, show j * 2 - 2 * j = 0 by omega, show j * 2 + 1 - 2 * j = 1 by omega]
      exact ⟨rfl, rfl⟩
    · rw [List.getElem?_append_left (by omega), List.getElem?_append_left (by omega)]
      exact ih (by omega)
theorem slice_own {W : World} {base size n : Nat} {e : TypeId} {v : Value} {xs : List Value} (h : W.ownsRow base e size v n xs) (hn : 0 < n) : ∃ g c, v = .slice (some ⟨g, 0, none⟩) n c := by
  rcases h.2 with ⟨q1, q2⟩ | ⟨gq, cq, cur, q1, _⟩
  · omega
  · exact ⟨gq, cq, q1⟩
/-- What movers tells. -/
def RetMv (w : World) (m : Nat) (mv : Nat → Bool) (e : Ending) (w' : World) : Prop := ∃ v, e = .returned v ∧ w'.ownsRow w.heap.size 4 1 v m ((List.range m).map fun k => .bool (mv k)) ∧ Below w.heap.size w w'
set_option maxRecDepth 100000 in
set_option maxHeartbeats 6400000 in
theorem widen_pts {w : World} {Na Nb : Int} {Aa Ab S : Option Addr} {la lb ca cb m n cap : Nat} {C B : Mat} {f : Nat → Int} {mv : Nat → Bool} (h0 : 0 < m) (h7 : m ≤ 7) (hn : n ≤ 9223372036854775807) (hS : Sp.Ints w S n f) (hC : Closed m C) (hB : Closed m B) (hle : leqO m m (some B) (some C) = false)
    (K : ∀ W, Below w.heap.size w W → Calls Tryd.prog 35 #[zoneV Na Aa la ca, zoneV Nb Ab lb cb] W (RetTwo W m m (some C) (some B)))
    (KM : ∀ W base g1 c1 g2 c2 vs, W.ownsRow base 3 1 (.slice (some ⟨g1, 0, none⟩) (m * m) c1) (m * m) ((flatL m C).map (Value.int .i64)) → W.ownsRow base 3 1 (.slice (some ⟨g2, 0, none⟩) (m * m) c2) (m * m) ((flatL m B).map (Value.int .i64)) → W.ownsRow base 55 2 vs m (cellsW f n C B m) →
      Calls Tryd.prog 66 #[zoneV ((m : Int) - 1) (some ⟨g1, 0, none⟩) (m * m) c1, zoneV ((m : Int) - 1) (some ⟨g2, 0, none⟩) (m * m) c2, vs] W (RetMv W m mv)) :
    Calls Tryd.prog 49 #[zoneV Na Aa la ca, zoneV Nb Ab lb cb, .slice S n cap] w (RetC w m (setR m (prM mv f n C B))) := by
  have HT := Lib.hid (thr_new w (.int .i64 Na) (.int .i64 Nb) (.int .i64 0) (.slice Aa la ca) (.slice Ab lb cb) (.slice none 0 0))
  have HK := Lib.hid (K _ HT.out.2.2.2)
  have HLq : Hid (∀ W b A1 c1 A2 c2, ZRes W b m (some B) (zoneV ((m : Int) - 1) A2 (m * m) c2) → ZRes W b m (some C) (zoneV ((m : Int) - 1) A1 (m * m) c1) → Calls Tryd.prog 17 #[zoneV ((m : Int) - 1) A2 (m * m) c2, zoneV ((m : Int) - 1) A1 (m * m) c1] W (RetB W false)) := Lib.hid fun W b A1 c1 A2 c2 z2 z1 => by
    have q := leq_any h0 h7 (fun W1 hb => two_of (ma := m) (mb := m) (fun W2 hb2 => close_back h0 h7 ((z2.below hb).below hb2)) (fun W2 hb2 => close_back h0 h7 ((z1.below hb).below hb2)))
    rw [hle] at q
    exact q
  clear K
  go_enter Tryd.func49, Tryd.ntmps49
  go_upto_region 2 with (go_at_call 35; refine HK.out.mono ?_; rintro e w1 ⟨A, c1, B2, c2, rfl, hz1, hz2, hb1⟩; have hF1 := HT.out.below hb1; have y0 := hF1.1.cell0; have y1 := hF1.1.cell1; have y2 := hF1.2.1.cell0; have y3 := hF1.2.1.cell1; have y4 := hF1.1.frozen0; have y5 := hF1.1.frozen1; have y6 := hF1.2.1.frozen0; have y7 := hF1.2.1.frozen1)
  go_cut [17] (fun t wx => Mid w m m (some C) (some B) t wx)
  case first =>
    have hM := mid_mk HT.out hb1 hz1 hz2
    rw [show (!decide (m = m)) = false by simp] at hM
    have HM := Lib.hid hM
    clear hM hz1 hz2 hb1 hF1
    go_wp2_with fail
    go_meet
    exact HM.out
  case rest =>
    clear y0 y1 y2 y3 y4 y5 y6 y7 hF1 hz1 hz2 hb1 HK
    obtain ⟨A, c1, B2, c2, ht, hz1, hz2, hF⟩ := hcut
    rw [show (!decide (m = m)) = false by simp] at ht
    subst ht
    have e1 : rlen m (some C) = m * m := rfl
    have e4 : rlen m (some B) = m * m := rfl
    rw [e1] at hz1 hF
    rw [e4] at hz2 hF
    have HZ1 := Lib.hid hz1
    have HZ2 := Lib.hid hz2
    have HF := Lib.hid hF
    clear hz1 hz2 hF HT
    have k0 := HF.out.1.cell0
    have k1 := HF.out.1.cell1
    have k2 := HF.out.2.1.cell0
    have k3 := HF.out.2.1.cell1
    have e2 := sq_pos h0
    have HS := Lib.hid (fun W (hb : Below w.heap.size w W) => hS.below hb)
    have HKM := Lib.hid KM
    clear KM hS
    go_wp2_with (first
      | (go_at_call 17; have q2 := HZ2.out; have q1 := HZ1.out; ((with_reducible refine (HLq.out _ _ _ _ _ _ q2 q1).mono ?_); rintro e w3 ⟨rfl, hb3⟩); have HF3 := Lib.hid (HF.out.below hb3); have Z3 := Lib.hid (HZ1.out.below hb3); have Z4 := Lib.hid (HZ2.out.below hb3); have k0 := HF3.out.1.cell0; have k1 := HF3.out.1.cell1; have k2 := HF3.out.2.1.cell0; have k3 := HF3.out.2.1.cell1; clear hb3 q1 q2)
      | (go_at_call 36; ((with_reducible refine (none_any _ _ _ _ _).mono ?_); rintro e w4 ⟨rfl, hb4⟩); have HF4 := Lib.hid (HF3.out.below hb4); have Z5 := Lib.hid (Z3.out.below hb4); have Z6 := Lib.hid (Z4.out.below hb4); have k0 := HF4.out.1.cell0; have k1 := HF4.out.1.cell1; have k2 := HF4.out.2.1.cell0; have k3 := HF4.out.2.1.cell1; clear hb4))
    obtain ⟨g1, rfl, -, o1⟩ := zres_some Z5.out
    obtain ⟨g2, rfl, -, o2⟩ := zres_some Z6.out
    have O1 := Lib.hid o1
    have O2 := Lib.hid o2
    have hS4 := HS.out _ HF4.out.2.2.2
    refine (widened_any h0 h7 hC hB hn o1 o2 hS4).mono ?_
    rintro e w5 ⟨vs, rfl, ho5, hb5⟩
    obtain ⟨gs, cs, rfl⟩ := slice_own ho5 h0
    have HF5 := Lib.hid (HF4.out.below hb5)
    have P1 := Lib.hid (own_kept_below O1.out hb5)
    have P2 := Lib.hid (own_kept_below O2.out hb5)
    have PS := Lib.hid (own_lower ho5 HF4.out.2.2.2.size)
    clear o1 o2 O1 O2 ho5 hb5 hS4 HF HF3 HF4 HZ1 HZ2 Z3 Z4 Z5 Z6
    clear k0 k1 k2 k3
    have k0 := HF5.out.1.cell0
    have k1 := HF5.out.1.cell1
    have k2 := HF5.out.2.1.cell0
    have k3 := HF5.out.2.1.cell1
    have k4 := HF5.out.1.lt
    have k5 := HF5.out.2.1.lt
    go_wp2_with (go_at_call 66; have q0 := zboxed w5 (.cells #[.slice (some ⟨gs, 0, none⟩) m cs] 86); have q1 := own_kept_below P1.out q0; have q2 := own_kept_below P2.out q0; have q3 := own_kept_below PS.out q0; ((with_reducible refine (HKM.out _ _ _ _ _ _ _ q1 q2 q3).mono ?_); rintro e w7 ⟨vm, rfl, ho7, hb7⟩); obtain ⟨gm, cm, hvm⟩ := slice_own ho7 h0; subst hvm; have HF7 := Lib.hid ((HF5.out.below q0).below hb7); have R1 := Lib.hid (own_kept_below q1 hb7); have RS := Lib.hid (own_kept_below q3 hb7); have RM := Lib.hid (own_lower ho7 (Nat.zero_le _)); have BS := Lib.hid (boxed_below (Boxed.new w5 86 (.slice (some ⟨gs, 0, none⟩) m cs)) hb7); have m0 := HF7.out.1.cell0; have m1 := HF7.out.1.cell1; have m2 := HF7.out.1.lt; clear q0 q1 q2 q3 ho7 hb7)
    have hq := zboxed w7 (.cells #[.slice (some ⟨gm, 0, none⟩) m cm] 88)
    have HF8 := Lib.hid (HF7.out.below hq)
    have R8 := Lib.hid (own_kept_below R1.out hq)
    have RS8 := Lib.hid (own_kept_below RS.out hq)
    have RM8 := Lib.hid (own_kept_below RM.out hq)
    have BS8 := Lib.hid (boxed_below BS.out hq)
    have BM8 := Lib.hid (Boxed.new w7 88 (.slice (some ⟨gm, 0, none⟩) m cm))
    clear hq HF7 R1 RS RM BS k0 k1 k2 k3 k4 k5 m0 m1 m2 HF5 P1 P2 PS
    generalize w7.alloc (.cells #[.slice (some ⟨gm, 0, none⟩) m cm] 88) = w8 at *
    generalize w7.heap.size = b7 at *
    generalize w5.heap.size = b5 at *
    refine (fill_any 67 #[.pointer (some ⟨b5, 0, none⟩), .pointer (some ⟨b7, 0, none⟩), .pointer (some ⟨w.heap.size, 0, none⟩)] m h7 h0 (prM mv f n C B) _ (enters_of Tryd.func67 (by kernel_rfl) rfl) (fun r c W hr hc hbW => ?_)).mono ?_
    · refine widen_fn h7 hr hc (boxed_below BS8.out hbW) (boxed_below BM8.out hbW) (HF8.out.below hbW).1 (fun k hk => ?_) (fun k hk => ?_) (fun k hk => ?_) (own_kept_below R8.out hbW)
      · have q := own_kept_below RS8.out hbW
        obtain ⟨e1, e2⟩ := cellsW_at f n C B hk
        exact ⟨(q.cellAt (k * 2) (by omega)).trans e1, (q.cellAt (k * 2 + 1) (by omega)).trans e2, (q.lt gs rfl).2⟩
      · have q := own_kept_below RM8.out hbW
        exact ⟨(q.cellAt k (by omega)).trans (by rw [List.getElem?_map, List.getElem?_range hk]; rfl), (q.lt gm rfl).2⟩
      · have q := w_facts (f := f) (n := n) hC hB h0 hk
        have q2 := closed_span hC h0 hk
        omega
    rintro e w9 ⟨v5, rfl, ho5, hb5⟩
    obtain ⟨g5, c5, rfl⟩ := own_slice ho5 (Nat.mul_pos h0 h0)
    have hF9 := HF8.out.below hb5
    have hg5 := (ho5.lt g5 rfl).1
    have hs4 := HF8.out.2.2.1.lt
    have ho5' := own_lower ho5 HF8.out.2.2.2.size
    have HF9 := Lib.hid hF9
    have HO5 := Lib.hid ho5'
    clear ho5 ho5' hb5 hF9
    go_wp2_with fail
    refine (settle_any m h7 h0 (prM mv f n C B) g5 c5 _ w9 (fun a b ha hb => by
      have q1 := w_facts (f := f) (n := n) hC hB h0 ha
      have q2 := w_facts (f := f) (n := n) hC hB h0 hb
      have q3 := closed_span hC h0 ha
      have q4 := closed_span hC h0 hb
      have q5 := hC.bd ha hb
      unfold prM
      split
      · omega
      · split
        · omega
        · split <;> omega) HO5.out).mono ?_
    rintro e w6 (⟨ha, rfl, ho6, hg6⟩ | ⟨hna, rfl, hg6⟩)
    · have hD3 := HF9.out.2.2.1.kept hg6 (by simp <;> omega)
      have hB3 := HF9.out.2.2.2.grown hg6 HF9.out.2.2.2.size (fun r e => by cases e; omega)
      have d0 := hD3.cell0
      have d1 := hD3.cell1
      have f0 := hD3.frozen0
      have f1 := hD3.frozen1
      have HO6 := Lib.hid ho6
      have HB3 := Lib.hid hB3
      clear ho6 hB3 hg6
      go_wp2_with fail
      refine post_cell (rb := w.heap.size + 1 + 1) Tryd.results49 rfl rfl ((hD3.set0 _).set1 _) ?_
      rw [setR_yes ha]
      refine ⟨_, c5, rfl, ⟨lev_closed ha, g5, c5, rfl, ?_⟩, (HB3.out.setCell (p := ⟨w.heap.size + 1 + 1, 0, none⟩) (by simp <;> omega) _).setCell (p := ⟨w.heap.size + 1 + 1, 1, none⟩) (by simp <;> omega) _⟩
      exact (HO6.out.kept (duo_grown_setCell _ _ _) (.inr (by simp [Value.ownBlock]; omega))).kept (duo_grown_setCell _ _ _) (.inr (by simp [Value.ownBlock]; omega))
    · have hD3 := HF9.out.2.2.1.kept hg6 (by simp <;> omega)
      have hB3 := HF9.out.2.2.2.grown hg6 HF9.out.2.2.2.size (fun r e => by cases e; omega)
      have d0 := hD3.cell0
      have d1 := hD3.cell1
      have f0 := hD3.frozen0
      have f1 := hD3.frozen1
      have HB3 := Lib.hid hB3
      clear hB3 hg6
      go_wp2_with fail
      refine post_cell (rb := w.heap.size + 1 + 1) Tryd.results49 rfl rfl ((hD3.set0 _).set1 _) ?_
      rw [setR_no hna]
      exact ⟨none, 0, rfl, rfl, (HB3.out.setCell (p := ⟨w.heap.size + 1 + 1, 0, none⟩) (by simp <;> omega) _).setCell (p := ⟨w.heap.size + 1 + 1, 1, none⟩) (by simp <;> omega) _⟩
end Go.Proofs.YtlkbapcienjdcaaDoor

/- The contract of the program's Widen: any two zones; given that of movers. -/
namespace Go.Proofs.YtlkbapcienjdcaaDoor
open Go.RowKit
attribute [local go_sem ↓] Go.wp_at_zero Go.wp_at_succ

section
variable {w : World} {Na Nb : Int} {Aa Ab S : Option Addr} {la lb ca cb ma mb m n cap : Nat} {Ra Rb : Option Mat}
set_option maxRecDepth 100000 in
set_option maxHeartbeats 3200000 in
theorem widen_off (hm : ma ≠ mb)
    (K : ∀ W, Below w.heap.size w W → Calls Tryd.prog 35 #[zoneV Na Aa la ca, zoneV Nb Ab lb cb] W (RetTwo W ma mb Ra Rb)) :
    Calls Tryd.prog 49 #[zoneV Na Aa la ca, zoneV Nb Ab lb cb, .slice S n cap] w (RetC w 1 none) := by
  have HT := Lib.hid (thr_new w (.int .i64 Na) (.int .i64 Nb) (.int .i64 0) (.slice Aa la ca) (.slice Ab lb cb) (.slice none 0 0))
  have HK := Lib.hid (K _ HT.out.2.2.2)
  clear K
  have HM0 := Lib.hid hm
  clear hm
  go_enter Tryd.func49, Tryd.ntmps49
  go_upto_region 2 with (go_at_call 35; refine HK.out.mono ?_; rintro e w1 ⟨A, c1, B, c2, rfl, hz1, hz2, hb1⟩; have hF1 := HT.out.below hb1; have y0 := hF1.1.cell0; have y1 := hF1.1.cell1; have y2 := hF1.2.1.cell0; have y3 := hF1.2.1.cell1; have y4 := hF1.1.frozen0; have y5 := hF1.1.frozen1; have y6 := hF1.2.1.frozen0; have y7 := hF1.2.1.frozen1)
  go_cut [17] (fun t wx => Mid w ma mb Ra Rb t wx)
  case first =>
    have hM := mid_mk HT.out hb1 hz1 hz2
    have HM := Lib.hid hM
    clear hM hz1 hz2 hb1 hF1
    go_wp2_with fail
    go_meet
    exact HM.out
  case rest =>
    clear y0 y1 y2 y3 y4 y5 y6 y7 hF1 hz1 hz2 hb1 HK
    obtain ⟨A, c1, B, c2, ht, hz1, hz2, hF⟩ := hcut
    rw [show (!decide (ma = mb)) = true by rw [decide_eq_false HM0.out]; rfl] at ht
    subst ht
    have HF := Lib.hid hF
    clear hz1 hz2 hF HT
    have k0 := HF.out.1.cell0
    have k1 := HF.out.1.cell1
    have k2 := HF.out.2.1.cell0
    have k3 := HF.out.2.1.cell1
    go_wp2_with (go_at_call 20; refine (bottom_any _ _).mono ?_; rintro e w2 ⟨rfl, hb2⟩; have hF2 := HF.out.below hb2; have d0 := hF2.2.2.1.cell0; have d1 := hF2.2.2.1.cell1; have f0 := hF2.2.2.1.frozen0; have f1 := hF2.2.2.1.frozen1)
    have hL := hF2.last (.int .i64 0) (.slice none 0 0)
    exact post_cell (rb := w.heap.size + 1 + 1) Tryd.results49 rfl rfl hL.1 ⟨none, 0, rfl, rfl, hL.2⟩
set_option maxRecDepth 100000 in
set_option maxHeartbeats 3200000 in
/-- Where the second is in the first. -/
theorem widen_le (h0 : 0 < m) (h7 : m ≤ 7) (hle : leqO m m Rb Ra = true)
    (K : ∀ W, Below w.heap.size w W → Calls Tryd.prog 35 #[zoneV Na Aa la ca, zoneV Nb Ab lb cb] W (RetTwo W m m Ra Rb)) :
    Calls Tryd.prog 49 #[zoneV Na Aa la ca, zoneV Nb Ab lb cb, .slice S n cap] w (RetC w m Ra) := by
  have HT := Lib.hid (thr_new w (.int .i64 Na) (.int .i64 Nb) (.int .i64 0) (.slice Aa la ca) (.slice Ab lb cb) (.slice none 0 0))
  have HK := Lib.hid (K _ HT.out.2.2.2)
  have HLq : Hid (∀ W b A1 c1 A2 c2, ZRes W b m Rb (zoneV ((m : Int) - 1) A2 (rlen m Rb) c2) → ZRes W b m Ra (zoneV ((m : Int) - 1) A1 (rlen m Ra) c1) → Calls Tryd.prog 17 #[zoneV ((m : Int) - 1) A2 (rlen m Rb) c2, zoneV ((m : Int) - 1) A1 (rlen m Ra) c1] W (RetB W true)) := Lib.hid fun W b A1 c1 A2 c2 z2 z1 => by
    have q := leq_any h0 h7 (fun W1 hb => two_of (ma := m) (mb := m) (fun W2 hb2 => close_back h0 h7 ((z2.below hb).below hb2)) (fun W2 hb2 => close_back h0 h7 ((z1.below hb).below hb2)))
    rw [hle] at q
    exact q
  clear K hle
  generalize hla : rlen m Ra = L1 at *
  generalize hlb : rlen m Rb = L2 at *
  go_enter Tryd.func49, Tryd.ntmps49
  go_upto_region 2 with (go_at_call 35; refine HK.out.mono ?_; rintro e w1 ⟨A, c1, B, c2, rfl, hz1, hz2, hb1⟩; have hF1 := HT.out.below hb1; have y0 := hF1.1.cell0; have y1 := hF1.1.cell1; have y2 := hF1.2.1.cell0; have y3 := hF1.2.1.cell1; have y4 := hF1.1.frozen0; have y5 := hF1.1.frozen1; have y6 := hF1.2.1.frozen0; have y7 := hF1.2.1.frozen1)
  go_cut [17] (fun t wx => Mid w m m Ra Rb t wx)
  case first =>
    have hM := mid_mk HT.out hb1 hz1 hz2
    rw [show (!decide (m = m)) = false by simp, hla, hlb] at hM
    have HM := Lib.hid hM
    clear hM hz1 hz2 hb1 hF1
    go_wp2_with fail
    go_meet
    exact HM.out
  case rest =>
    clear y0 y1 y2 y3 y4 y5 y6 y7 hF1 hz1 hz2 hb1 HK
    obtain ⟨A, c1, B, c2, ht, hz1, hz2, hF⟩ := hcut
    rw [show (!decide (m = m)) = false by simp] at ht
    subst ht
    rw [hla] at hz1 hF
    rw [hlb] at hz2 hF
    have HZ1 := Lib.hid hz1
    have HZ2 := Lib.hid hz2
    have HF := Lib.hid hF
    have HLa := Lib.hid hla
    clear hz1 hz2 hF HT hla hlb
    have k0 := HF.out.1.cell0
    have k1 := HF.out.1.cell1
    have k2 := HF.out.2.1.cell0
    have k3 := HF.out.2.1.cell1
    go_wp2_with (go_at_call 17; have q2 := HZ2.out; have q1 := HZ1.out; ((with_reducible refine (HLq.out _ _ _ _ _ _ q2 q1).mono ?_); rintro e w3 ⟨rfl, hb3⟩); have HF3 := Lib.hid (HF.out.below hb3); have Z3 := Lib.hid (HZ1.out.below hb3); have l0 := HF3.out.1.cell0; have l1 := HF3.out.1.cell1; have d0 := HF3.out.2.2.1.cell0; have d1 := HF3.out.2.2.1.cell1; have f0 := HF3.out.2.2.1.frozen0; have f1 := HF3.out.2.2.1.frozen1; clear hb3 q1 q2)
    have hL := HF3.out.last (.int .i64 ((m : Int) - 1)) (.slice A L1 c1)
    refine post_cell (rb := w.heap.size + 1 + 1) Tryd.results49 rfl rfl hL.1 ⟨A, c1, by rw [HLa.out], ?_, hL.2⟩
    rw [HLa.out]
    exact (Z3.out.setBox HF3.out.2.2.1 _).setBox (HF3.out.2.2.1.set0 _) _
set_option maxRecDepth 100000 in
set_option maxHeartbeats 3200000 in
/-- Where the first has no point, and the second has one. -/
theorem widen_na {B : Mat} (h0 : 0 < m) (h7 : m ≤ 7)
    (K : ∀ W, Below w.heap.size w W → Calls Tryd.prog 35 #[zoneV Na Aa la ca, zoneV Nb Ab lb cb] W (RetTwo W m m none (some B))) :
    Calls Tryd.prog 49 #[zoneV Na Aa la ca, zoneV Nb Ab lb cb, .slice S n cap] w (RetC w m (some B)) := by
  have HT := Lib.hid (thr_new w (.int .i64 Na) (.int .i64 Nb) (.int .i64 0) (.slice Aa la ca) (.slice Ab lb cb) (.slice none 0 0))
  have HK := Lib.hid (K _ HT.out.2.2.2)
  have HLq : Hid (∀ W b A1 c1 A2 c2, ZRes W b m (some B) (zoneV ((m : Int) - 1) A2 (m * m) c2) → ZRes W b m none (zoneV ((m : Int) - 1) A1 0 c1) → Calls Tryd.prog 17 #[zoneV ((m : Int) - 1) A2 (m * m) c2, zoneV ((m : Int) - 1) A1 0 c1] W (RetB W false)) := Lib.hid fun W b A1 c1 A2 c2 z2 z1 =>
    leq_any (ma := m) (mb := m) (Ra := some B) (Rb := none) h0 h7 (fun W1 hb => two_of (ma := m) (mb := m) (fun W2 hb2 => close_back h0 h7 ((z2.below hb).below hb2)) (fun W2 hb2 => close_back (R := none) h0 h7 ((z1.below hb).below hb2)))
  clear K
  go_enter Tryd.func49, Tryd.ntmps49
  go_upto_region 2 with (go_at_call 35; refine HK.out.mono ?_; rintro e w1 ⟨A, c1, B2, c2, rfl, hz1, hz2, hb1⟩; have hF1 := HT.out.below hb1; have y0 := hF1.1.cell0; have y1 := hF1.1.cell1; have y2 := hF1.2.1.cell0; have y3 := hF1.2.1.cell1; have y4 := hF1.1.frozen0; have y5 := hF1.1.frozen1; have y6 := hF1.2.1.frozen0; have y7 := hF1.2.1.frozen1)
  go_cut [17] (fun t wx => Mid w m m none (some B) t wx)
  case first =>
    have hM := mid_mk HT.out hb1 hz1 hz2
    rw [show (!decide (m = m)) = false by simp] at hM
    have HM := Lib.hid hM
    clear hM hz1 hz2 hb1 hF1
    go_wp2_with fail
    go_meet
    exact HM.out
  case rest =>
    clear y0 y1 y2 y3 y4 y5 y6 y7 hF1 hz1 hz2 hb1 HK
    obtain ⟨A, c1, B2, c2, ht, hz1, hz2, hF⟩ := hcut
    rw [show (!decide (m = m)) = false by simp] at ht
    subst ht
    have e1 : rlen m (none : Option Mat) = 0 := rfl
    have e4 : rlen m (some B) = m * m := rfl
    rw [e1] at hz1 hF
    rw [e4] at hz2 hF
    have HZ1 := Lib.hid hz1
    have HZ2 := Lib.hid hz2
    have HF := Lib.hid hF
    clear hz1 hz2 hF HT
    have k0 := HF.out.1.cell0
    have k1 := HF.out.1.cell1
    have k2 := HF.out.2.1.cell0
    have k3 := HF.out.2.1.cell1
    go_wp2_with (first
      | (go_at_call 17; have q2 := HZ2.out; have q1 := HZ1.out; ((with_reducible refine (HLq.out _ _ _ _ _ _ q2 q1).mono ?_); rintro e w3 ⟨rfl, hb3⟩); have HF3 := Lib.hid (HF.out.below hb3); have Z4 := Lib.hid (HZ2.out.below hb3); have l0 := HF3.out.1.cell0; have l1 := HF3.out.1.cell1; clear hb3 q1 q2)
      | (go_at_call 36; ((with_reducible refine (none_any _ _ _ _ _).mono ?_); rintro e w4 ⟨rfl, hb4⟩); have HF4 := Lib.hid (HF3.out.below hb4); have Z6 := Lib.hid (Z4.out.below hb4); have l2 := HF4.out.2.1.cell0; have l3 := HF4.out.2.1.cell1; have d0 := HF4.out.2.2.1.cell0; have d1 := HF4.out.2.2.1.cell1; have f0 := HF4.out.2.2.1.frozen0; have f1 := HF4.out.2.2.1.frozen1; clear hb4))
    have hL := HF4.out.last (.int .i64 ((m : Int) - 1)) (.slice B2 (m * m) c2)
    exact post_cell (rb := w.heap.size + 1 + 1) Tryd.results49 rfl rfl hL.1 ⟨B2, c2, rfl, (Z6.out.setBox HF4.out.2.2.1 _).setBox (HF4.out.2.2.1.set0 _) _, hL.2⟩
end
end Go.Proofs.YtlkbapcienjdcaaDoor

/- movers: the first loop, by spans; slices.Clone of bools. -/
namespace Go.Proofs.YtlkbapcienjdcaaDoor
open Go.RowKit
attribute [local go_sem ↓] Go.wp_at_zero Go.wp_at_succ

theorem wpList_append_bat {P : Program} {w : World} {ops : Array Oper} {rest : List Oper} {o : Oper} {a : Act} {Q : Exit → Act → World → Prop} (hgd : o.guard = none) (s x : Operand) (t : TypeId)
    (ho : o.op = .call { callee := .builtin .append, args := #[s, x], argTypes := #[t, t] })
    (base : Nat) (e : TypeId) (i : TypeInfo) (z : Value) (size bytes : Nat) (ht : P.underlying t = some (.slice e)) (hi : P.info? e = some i) (hz : i.zero = some z)
    (hsize : i.size = size) (hby : i.bytes = bytes) (hzs : z.cells.size = size) (hsz : 0 < size)
    (v : Value) (n : Nat) (xs : List Value) (hs : a.eval s = v) (hown : w.ownsRow base e size v n xs)
    (ad : Addr) (m c : Nat) (news : List Value) (hx : a.eval x = .slice (some ad) m c) (hl : news.length = m * size) (hnews : ∀ j u, news[j]? = some u → w.cell? (ad.add j) = some u) (h1 : ∀ u ∈ news, u.oneCell' = true)
    (h63 : n + m ≤ maxLen) (hbytes : (n + m) * bytes ≤ 140737488355328) (hbase : base ≤ w.heap.size)
    (h : ∀ v' w', w'.ownsRow base e size v' (n + m) (xs ++ news) → w.grownBy w' v.ownBlock → (v'.ownBlock = v.ownBlock ∨ v'.ownBlock = some w.heap.size) → wpList P ops Q rest (a.put o.dst v') w') : wpList P ops Q (o :: rest) a w :=
  wpList_plain hgd fun _ hK => wp_append_at s x t ho base e i z size bytes ht hi hz hsize hby hzs hsz v n xs hs hown ad m c news hx hl hnews h1 h63 hbytes hbase fun v' w' h2 h3 h4 => hK _ _ (h v' w' h2 h3 h4)
theorem binfo : (Tryd.prog.info? 4).map (fun i => (i.zero, i.size, i.bytes)) = some (some (.bool false), 1, 1) := by kernel_rfl
/-- slices.Clone: the same cells, in a row of its own. -/
def RetCl (t : TypeId) (size n : Nat) (xs : List Value) (w : World) (e : Ending) (w' : World) : Prop :=
  ∃ v, e = .returned v ∧ w'.ownsRow w.heap.size t size v n xs ∧ Below w.heap.size w w'
set_option maxRecDepth 100000 in
set_option maxHeartbeats 1600000 in
theorem clone_bools {W : World} {base g n c : Nat} {xs : List Value} (h : W.ownsRow base 4 1 (.slice (some ⟨g, 0, none⟩) n c) n xs) (hn : n ≤ 20000) (hone : ∀ u ∈ xs, u.oneCell' = true) : Calls Tryd.prog 78 #[.slice (some ⟨g, 0, none⟩) n c] W (RetCl 4 1 n xs W) := by
  obtain ⟨i0, hi, hz0, hz1, hz2⟩ := info_parts binfo
  have hglt : g < W.heap.size := (h.lt g rfl).2
  have hnil := Lib.run_eql_slice_nil (P := Tryd.prog) W 88 4 (some ⟨g, 0, none⟩) n c 0 0 Tryd.underlying88
  have hxl := h.1
  have hnews : Hid (∀ j u, xs[j]? = some u → (W.alloc (.cells #[] 4)).cell? ((⟨g, 0, none⟩ : Addr).add j) = some u) := Lib.hid fun j u hu => by
    have hb := (Below.refl W.heap.size W).alloc (Nat.le_refl _) (.cells #[] 4)
    rw [Addr.add_lit, Nat.zero_add, hb.cell (p := ⟨g, j, none⟩) hglt, h.cellAt j (by have := (List.getElem?_eq_some_iff.1 hu).1; omega)]
    exact hu
  have hown := Lib.hid (World.ownsRow_lit (base := W.heap.size) (e := 4) (size := 1) W #[] 0 (Nat.le_refl _) (by unfold maxLen; omega) rfl)
  have hsz : Hid (n ≤ maxLen ∧ n * 1 ≤ 140737488355328 ∧ W.heap.size ≤ (W.alloc (.cells #[] 4)).heap.size) := Lib.hid ⟨by unfold maxLen; omega, by omega, by simp⟩
  have HOne := Lib.hid hone
  have HLen := Lib.hid hxl
  clear h hone hxl hglt
  go_enter Tryd.func78, Tryd.ntmps78
  go_wp2_with (at_builtin; refine wpList_append_bat rfl _ _ 88 rfl W.heap.size 4 i0 (.bool false) 1 1 Tryd.underlying88 hi hz0 hz1 hz2 rfl (by decide) _ _ _ rfl hown.out ⟨g, 0, none⟩ n c xs rfl HLen.out hnews.out HOne.out ?_ ?_ hsz.out.2.2 ?_; have := hsz.out.1; omega; have := hsz.out.2.1; omega; intro v' w' hown' hgrow _; have HO := Lib.hid hown'; have HG := Lib.hid hgrow; clear hown' hgrow)
  go_ret
  have hb := (Below.refl W.heap.size W).alloc (Nat.le_refl _) (.cells #[] 4)
  have hO := HO.out
  rw [Nat.zero_add, List.nil_append] at hO
  refine ⟨_, rfl, hO, ?_⟩
  exact hb.grown HG.out hsz.out.2.2 (fun k hk => Nat.le_of_eq (Option.some.inj (show some W.heap.size = some k from hk)))

/-- The cells of a row of bools. -/
def boolsL (m : Nat) (T : Nat → Bool) : List Value := (List.range m).map fun k => .bool (T k)
theorem boolsL_len (m : Nat) (T : Nat → Bool) : (boolsL m T).length = m := by simp [boolsL]
theorem boolsL_at {m k : Nat} (T : Nat → Bool) (h : k < m) : (boolsL m T)[k]? = some (.bool (T k)) := by
  unfold boolsL
  rw [List.getElem?_map, List.getElem?_range h]; rfl
theorem boolsL_one (m : Nat) (T : Nat → Bool) : ∀ u ∈ boolsL m T, u.oneCell' = true := fun u hu => by
  unfold boolsL at hu
  obtain ⟨s, -, rfl⟩ := List.mem_map.1 hu
  rfl
theorem boolsL_succ (m : Nat) (T : Nat → Bool) : boolsL (m + 1) T = boolsL m T ++ [.bool (T m)] := by simp [boolsL, List.range_succ]
theorem boolsL_congr {m : Nat} {T U : Nat → Bool} (h : ∀ k, k < m → T k = U k) : boolsL m T = boolsL m U := by
  unfold boolsL
  refine List.map_congr_left fun k hk => ?_
  rw [h k (List.mem_range.1 hk)]
theorem boolsL_set {m k : Nat} (T : Nat → Bool) (h : k < m) : (boolsL m T).set k (.bool true) = boolsL m (fun j => if j = k then true else T j) := by
  refine List.ext_getElem? fun j => ?_
  rw [List.getElem?_set, boolsL_len]
  by_cases e : k = j
  · subst e
    rw [if_pos rfl, if_pos h, boolsL_at _ h, if_pos rfl]
  · rw [if_neg e]
    by_cases hj : j < m
    · rw [boolsL_at _ hj, boolsL_at _ hj, if_neg (fun q => e q.symm)]
    · rw [List.getElem?_eq_none (by rw [boolsL_len]; omega), List.getElem?_eq_none (by rw [boolsL_len]; omega)]
/-- While the first loop of movers goes: both boxes, the row so far and its box. -/
structure MD (w : World) (m : Nat) (ga ca gb cb : Nat) (F : Nat → Bool) (v : Value) (k : Nat) (W : World) : Prop where
  low : Below w.heap.size w W
  za : Duo W w.heap.size 39 (.int .i64 ((m : Int) - 1)) (.slice (some ⟨ga, 0, none⟩) (m * m) ca)
  zb : Duo W (w.heap.size + 1) 39 (.int .i64 ((m : Int) - 1)) (.slice (some ⟨gb, 0, none⟩) (m * m) cb)
  fb : Boxed W (w.heap.size + 1 + 1) 88 v
  row : W.ownsRow (w.heap.size + 3) 4 1 v k (boolsL k F)
section
variable {w W W1 : World} {m ga ca gb cb k : Nat} {F : Nat → Bool} {v v1 : Value}
theorem MD.below (h : MD w m ga ca gb cb F v k W) (hb : Below W.heap.size W W1) : MD w m ga ca gb cb F v k W1 :=
  ⟨h.low.trans (hb.mono h.low.size), h.za.below hb, h.zb.below hb, boxed_below h.fb hb, own_kept_below h.row hb⟩
/-- Behind the append, and the store. -/
theorem MD.add {o : Obj} (h : MD w m ga ca gb cb F v k W) (ho : W1.ownsRow (w.heap.size + 3) 4 1 v1 (k + 1) (boolsL k F ++ [.bool (F k)])) (hg : (W.alloc o).grownBy W1 v.ownBlock) :
    MD w m ga ca gb cb F v1 (k + 1) (W1.setCell ⟨w.heap.size + 1 + 1, 0, none⟩ v1) ∧ (W1.cell? ⟨w.heap.size + 1 + 1, 0, none⟩ = some v ∧ W1.frozen? ⟨w.heap.size + 1 + 1, 0, none⟩ = false ∧ w.heap.size + 1 + 1 < W1.heap.size) ∧ W1.cell? ⟨w.heap.size, 0, none⟩ = some (.int .i64 ((m : Int) - 1)) ∧ W1.cell? ⟨w.heap.size, 1, none⟩ = some (.slice (some ⟨ga, 0, none⟩) (m * m) ca) := by
  have h1 := h.below (zboxed W o)
  have hr := h1.row.lt
  have hl : Below w.heap.size w W1 := h1.low.grown hg h1.low.size (fun q e => by have := (hr q e).1; omega)
  have a := h1.za.kept hg (fun e => by have := (hr _ e.symm).1; omega)
  have b := h1.zb.kept hg (fun e => by have := (hr _ e.symm).1; omega)
  have c := h1.fb.kept hg (fun e => by have := (hr _ e.symm).1; omega)
  refine ⟨⟨hl.setCell (p := ⟨w.heap.size + 1 + 1, 0, none⟩) (by simp; omega) _, a.other (by simp; omega) _, b.other (by simp) _, c.set _, ?_⟩, ⟨c.cell, c.frozen, c.lt⟩, a.cell0, a.cell1⟩
  rw [boolsL_succ]
  refine ho.kept (duo_grown_setCell _ _ _) (.inr fun e => ?_)
  have := (ho.lt (w.heap.size + 1 + 1) e).1
  omega
theorem md_new (w : World) (m ga ca gb cb : Nat) (F : Nat → Bool) : MD w m ga ca gb cb F (.slice none 0 0) 0 (((w.alloc (.cells #[.int .i64 ((m : Int) - 1), .slice (some ⟨ga, 0, none⟩) (m * m) ca] 39)).alloc (.cells #[.int .i64 ((m : Int) - 1), .slice (some ⟨gb, 0, none⟩) (m * m) cb] 39)).alloc (.cells #[.slice none 0 0] 88)) := by
  have k1 := Duo.new (w.alloc (.cells #[.int .i64 ((m : Int) - 1), .slice (some ⟨ga, 0, none⟩) (m * m) ca] 39)) 39 (.int .i64 ((m : Int) - 1)) (.slice (some ⟨gb, 0, none⟩) (m * m) cb)
  rw [World.size_alloc] at k1
  have k2 := Boxed.new ((w.alloc (.cells #[.int .i64 ((m : Int) - 1), .slice (some ⟨ga, 0, none⟩) (m * m) ca] 39)).alloc (.cells #[.int .i64 ((m : Int) - 1), .slice (some ⟨gb, 0, none⟩) (m * m) cb] 39)) 88 (.slice none 0 0)
  simp only [World.size_alloc] at k2
  exact ⟨(((Below.refl _ w).alloc (Nat.le_refl _) _).alloc (by simp) _).alloc (by simp; omega) _, ((Duo.new w _ _ _).alloc _).alloc _, k1.alloc _, k2, ⟨rfl, .inl ⟨rfl, rfl⟩⟩⟩
end
theorem news_one (W : World) (x : Value) (t : TypeId) : ∀ (j : Nat) (u : Value), [x][j]? = some u → (W.alloc (.cells #[x] t)).cell? ((⟨W.heap.size, 0, none⟩ : Addr).add j) = some u := fun j u hu => by
  have hh := World.alloc_heap_new W (.cells #[x] t)
  generalize W.alloc (.cells #[x] t) = W1 at *
  match j, hu with
  | 0, hu => simp at hu; subst hu; simp [World.cell?, Addr.add, hh]
  | k + 1, hu => simp at hu
/-- With the span that is looked at. -/
structure MS (w : World) (b m ga ca gb cb : Nat) (F : Nat → Bool) (v : Value) (k : Nat) (l h : Int) (W : World) : Prop where
  md : MD w m ga ca gb cb F v k W
  sb : Duo W b 55 (.int .i64 l) (.int .i64 h)
  far : w.heap.size + 3 ≤ b
section
variable {w W W1 : World} {b m ga ca gb cb k : Nat} {F : Nat → Bool} {v v1 : Value} {l h : Int}
theorem MS.below (x : MS w b m ga ca gb cb F v k l h W) (hb : Below W.heap.size W W1) : MS w b m ga ca gb cb F v k l h W1 := ⟨x.md.below hb, x.sb.below hb, x.far⟩
theorem MS.s (x : MS w b m ga ca gb cb F v k l h W) : (W.cell? ⟨b, 0, none⟩ = some (.int .i64 l) ∧ W.cell? ⟨b, 1, none⟩ = some (.int .i64 h)) ∧ W.cell? ⟨w.heap.size, 0, none⟩ = some (.int .i64 ((m : Int) - 1)) ∧ W.cell? ⟨w.heap.size, 1, none⟩ = some (.slice (some ⟨ga, 0, none⟩) (m * m) ca) := ⟨⟨x.sb.cell0, x.sb.cell1⟩, x.md.za.cell0, x.md.za.cell1⟩
theorem MS.add {o : Obj} (x : MS w b m ga ca gb cb F v k l h W) (ho : W1.ownsRow (w.heap.size + 3) 4 1 v1 (k + 1) (boolsL k F ++ [.bool (F k)])) (hg : (W.alloc o).grownBy W1 v.ownBlock) :
    MS w b m ga ca gb cb F v1 (k + 1) l h (W1.setCell ⟨w.heap.size + 1 + 1, 0, none⟩ v1) ∧ (W1.cell? ⟨w.heap.size + 1 + 1, 0, none⟩ = some v ∧ W1.frozen? ⟨w.heap.size + 1 + 1, 0, none⟩ = false ∧ w.heap.size + 1 + 1 < W1.heap.size) ∧
    (W1.cell? ⟨b, 0, none⟩ = some (.int .i64 l) ∧ W1.cell? ⟨b, 1, none⟩ = some (.int .i64 h)) ∧ W1.cell? ⟨w.heap.size, 0, none⟩ = some (.int .i64 ((m : Int) - 1)) ∧ W1.cell? ⟨w.heap.size, 1, none⟩ = some (.slice (some ⟨ga, 0, none⟩) (m * m) ca) := by
  have x1 := x.below (zboxed W o)
  obtain ⟨a, c, d⟩ := x.md.add ho hg
  have s := x1.sb.kept hg (x1.sb.not_row (by decide) x1.md.row)
  have hf := x.far
  exact ⟨⟨a, s.other (by simp; omega) _, x.far⟩, c, ⟨s.cell0, s.cell1⟩, d⟩
end
end Go.Proofs.YtlkbapcienjdcaaDoor

/- movers: what stands while its second loop goes. -/
namespace Go.Proofs.YtlkbapcienjdcaaDoor
open Go.RowKit
attribute [local go_sem ↓] Go.wp_at_zero Go.wp_at_succ

/-- A row of one's own, where all below its block is as it was. -/
theorem own_below_b {W W' : World} {base B g : Nat} {e : TypeId} {size n cap : Nat} {xs : List Value} (h : W.ownsRow base e size (.slice (some ⟨g, 0, none⟩) n cap) n xs) (hb : Below B W W') (hg : g < B) : W'.ownsRow base e size (.slice (some ⟨g, 0, none⟩) n cap) n xs := by
  refine ⟨h.1, ?_⟩
  rcases h.2 with ⟨q, _⟩ | ⟨g2, cap2, cur, q, h2, h3, h4⟩
  · simp at q
  · simp only [Value.slice.injEq, Option.some.injEq, Addr.mk.injEq] at q
    obtain ⟨⟨rfl, -, -⟩, -, rfl⟩ := q
    exact .inr ⟨g, cap, cur, rfl, h2, (hb.block g hg).trans h3, h4⟩
/-- While the second loop of movers goes. -/
structure MO (w : World) (m ga ca gb cb gf cf gm cm bm : Nat) (F T : Nat → Bool) (W : World) : Prop where
  md : MD w m ga ca gb cb F (.slice (some ⟨gf, 0, none⟩) m cf) m W
  mb : Boxed W bm 88 (.slice (some ⟨gm, 0, none⟩) m cm)
  mrow : W.ownsRow (w.heap.size + 3) 4 1 (.slice (some ⟨gm, 0, none⟩) m cm) m (boolsL m T)
  apart : gm ≠ gf ∧ gm ≠ bm ∧ w.heap.size + 3 ≤ gm
section
variable {w W W1 : World} {m ga ca gb cb gf cf gm cm bm i j : Nat} {F T U : Nat → Bool}
theorem MO.below (h : MO w m ga ca gb cb gf cf gm cm bm F T W) (hb : Below W.heap.size W W1) : MO w m ga ca gb cb gf cf gm cm bm F T W1 := ⟨h.md.below hb, boxed_below h.mb hb, own_kept_below h.mrow hb, h.apart⟩
theorem MO.congr (h : MO w m ga ca gb cb gf cf gm cm bm F T W) (e : ∀ k, k < m → T k = U k) : MO w m ga ca gb cb gf cf gm cm bm F U W := ⟨h.md, h.mb, by rw [← boolsL_congr e]; exact h.mrow, h.apart⟩
theorem MO.s (h : MO w m ga ca gb cb gf cf gm cm bm F T W) (hi : i < m) (hj : j < m) : (W.cell? ⟨w.heap.size + 1 + 1, 0, none⟩ = some (.slice (some ⟨gf, 0, none⟩) m cf) ∧ W.cell? ⟨gf, i, none⟩ = some (.bool (F i)) ∧ W.cell? ⟨gf, j, none⟩ = some (.bool (F j))) ∧
    (W.cell? ⟨w.heap.size, 0, none⟩ = some (.int .i64 ((m : Int) - 1)) ∧ W.cell? ⟨w.heap.size, 1, none⟩ = some (.slice (some ⟨ga, 0, none⟩) (m * m) ca)) ∧ W.cell? ⟨w.heap.size + 1, 0, none⟩ = some (.int .i64 ((m : Int) - 1)) ∧ W.cell? ⟨w.heap.size + 1, 1, none⟩ = some (.slice (some ⟨gb, 0, none⟩) (m * m) cb) :=
  ⟨⟨h.md.fb.cell, (h.md.row.cellAt i (by omega)).trans (boolsL_at F hi), (h.md.row.cellAt j (by omega)).trans (boolsL_at F hj)⟩, ⟨h.md.za.cell0, h.md.za.cell1⟩, h.md.zb.cell0, h.md.zb.cell1⟩
theorem MO.set (h : MO w m ga ca gb cb gf cf gm cm bm F T W) (hi : i < m) : MO w m ga ca gb cb gf cf gm cm bm F (fun k => if k = i then true else T k) (W.setCell ⟨gm, i, none⟩ (.bool true)) := by
  obtain ⟨a1, a2, a3⟩ := h.apart
  obtain ⟨hs, hg⟩ := h.mrow.stored i (.bool true)
  rw [boolsL_set T hi] at hs
  refine ⟨⟨h.md.low.setCell (p := ⟨gm, i, none⟩) (by simp; omega) _, h.md.za.other (by simp; omega) _, h.md.zb.other (by simp; omega) _, boxed_other h.md.fb (by simp; omega) _, h.md.row.kept (duo_grown_setCell _ _ _) (.inr (by simp [Value.ownBlock]; omega))⟩, boxed_other h.mb (by simp; omega) _, hs, h.apart⟩
theorem MO.at_ (h : MO w m ga ca gb cb gf cf gm cm bm F T W) (hi : i < m) : W.cell? ⟨gm, i, none⟩ = some (.bool (T i)) ∧ W.frozen? ⟨gm, i, none⟩ = false ∧ gm < W.heap.size := ⟨(h.mrow.cellAt i (by omega)).trans (boolsL_at T hi), h.mrow.frozenAt _, (h.mrow.lt gm rfl).2⟩
theorem mo_own {α : Type} {fT : List α → Nat → Bool} (B : Nat) (hB : w.heap.size ≤ B) : OwnFrom B (fun (pre : List α) W => MO w m ga ca gb cb gf cf gm cm bm F (fT pre) W) := by
  intro s X Y row h hg hr
  have hr' : ∀ r, row = some r → ∃ o : Obj, X.heap[r]? = some o ∧ o.isCells = false := fun r e => (hr r e).2
  exact ⟨⟨h.md.low.grown hg h.md.low.size (fun r e => Nat.le_trans hB (hr r e).1), cells_own h.md.za hg hr', cells_own h.md.zb hg hr', cells_own h.md.fb hg hr', row_own h.md.row hg hr'⟩, cells_own h.mb hg hr', row_own h.mrow hg hr', h.apart⟩
end
/-- Which variables have moved, behind some cells. -/
def mvL (m : Nat) (f : Nat → Int) (n : Nat) (C B : Mat) (pre : List (Cell m)) : Nat → Bool := fun k => farB f n C B k || pre.any fun x => (!farB f n C B x.1.1 && (!farB f n C B x.1.2 && decide (C x.1.1 x.1.2 < B x.1.1 x.1.2))) && (decide (k = x.1.1) || decide (k = x.1.2))
section
variable {m n k : Nat} {f : Nat → Int} {C B : Mat} {pre : List (Cell m)} {x : Cell m}
theorem mvL_snoc : mvL m f n C B (pre ++ [x]) k = (mvL m f n C B pre k || ((!farB f n C B x.1.1 && (!farB f n C B x.1.2 && decide (C x.1.1 x.1.2 < B x.1.1 x.1.2))) && (decide (k = x.1.1) || decide (k = x.1.2)))) := by
  unfold mvL
  rw [List.any_append]
  simp only [List.any_cons, List.any_nil, Bool.or_false, Bool.or_assoc]
theorem mvL_no (h : (!farB f n C B x.1.1 && (!farB f n C B x.1.2 && decide (C x.1.1 x.1.2 < B x.1.1 x.1.2))) = false) : mvL m f n C B pre k = mvL m f n C B (pre ++ [x]) k := by
  rw [mvL_snoc, h, Bool.false_and, Bool.or_false]
theorem mvL_yes (h : (!farB f n C B x.1.1 && (!farB f n C B x.1.2 && decide (C x.1.1 x.1.2 < B x.1.1 x.1.2))) = true) : (if k = x.1.2 then true else if k = x.1.1 then true else mvL m f n C B pre k) = mvL m f n C B (pre ++ [x]) k := by
  rw [mvL_snoc, h, Bool.true_and]
  by_cases a : k = x.1.2
  · rw [if_pos a, decide_eq_true a]; simp
  · by_cases b : k = x.1.1
    · rw [if_neg a, if_pos b, decide_eq_true b]; simp
    · rw [if_neg a, if_neg b, decide_eq_false a, decide_eq_false b]; simp
theorem mvL_all (h0 : 0 < m) : mvL m f n C B (spots h0 (m * m)) k = true ↔ Mv m f n C B k := by
  unfold mvL
  rw [Bool.or_eq_true, List.any_eq_true]
  constructor
  · rintro (h | ⟨x, -, h⟩)
    · exact .inl h
    · simp only [Bool.and_eq_true, Bool.not_eq_true', decide_eq_true_eq, Bool.or_eq_true] at h
      exact .inr ⟨x.1.1, x.1.2, x.2.1, x.2.2, h.1.1, h.1.2.1, h.1.2.2, h.2⟩
  · rintro (h | ⟨i, j, hi, hj, h1, h2, h3, hk⟩)
    · exact .inl h
    · refine .inr ⟨⟨(i, j), hi, hj⟩, ?_, ?_⟩
      · unfold spots
        exact List.mem_map.2 ⟨i * m + j, List.mem_range.2 (spot_lt hi hj), spot_at h0 hi hj⟩
      · simp only [Bool.and_eq_true, Bool.not_eq_true', decide_eq_true_eq, Bool.or_eq_true]
        exact ⟨⟨h1, h2, h3⟩, hk⟩
end
theorem retMv_congr {w w' : World} {m : Nat} {T U : Nat → Bool} {e : Ending} (h : RetMv w m T e w') (q : ∀ k, k < m → T k = U k) : RetMv w m U e w' := by
  obtain ⟨v, h1, h2, h3⟩ := h
  exact ⟨v, h1, by have := boolsL_congr q; unfold boolsL at this; rw [← this]; exact h2, h3⟩
theorem mov_leaves {w W : World} {B0 : Nat} {Ds : List Nat} {tmps : Array Value} {m g c : Nat} {T : Nat → Bool} (hw : w.heap.size ≤ B0) (hcW : B0 ≤ W.heap.size) (hM : Marks B0 Ds W) (hR : W.ownsRow (w.heap.size + 3) 4 1 (.slice (some ⟨g, 0, none⟩) m c) m (boolsL m T)) (hg : g < B0) (hG : Below w.heap.size w W)
    (ht : tmps.getD 6 undef = .slice (some ⟨g, 0, none⟩) m c) : LeavesInM Fence.wide 3 Tryd.prog Tryd.f66 tmps (RetMv w m T) (Ds.map mark) .returning W := by
  refine leaves_marks (B := B0) Ds W hcW hM (fun W' hb => ?_)
  simp at ht
  refine ⟨.slice (some ⟨g, 0, none⟩) m c, ?_, _, rfl, own_lower (own_below_b hR hb hg) (by omega), hG.trans (hb.mono hw)⟩
  simp [results, Tryd.results66, go_sem, ht]
end Go.Proofs.YtlkbapcienjdcaaDoor

/- The contract of movers: which variables have moved. -/
namespace Go.Proofs.YtlkbapcienjdcaaDoor
open Go.RowKit Go.Shelf
attribute [local go_sem] Oper.semAt_some
attribute [local go_sem ↓] Go.wp_at_zero Go.wp_at_succ neq24 eqg24

set_option maxRecDepth 100000 in
set_option maxHeartbeats 6400000 in
theorem movers_any {w : World} {m ga ca gb cb base n : Nat} {C B : Mat} {f : Nat → Int} {vs : Value} (h0 : 0 < m) (h7 : m ≤ 7) (hC : Closed m C)
    (oa : w.ownsRow base 3 1 (.slice (some ⟨ga, 0, none⟩) (m * m) ca) (m * m) ((flatL m C).map (Value.int .i64))) (ob : w.ownsRow base 3 1 (.slice (some ⟨gb, 0, none⟩) (m * m) cb) (m * m) ((flatL m B).map (Value.int .i64)))
    (os : w.ownsRow base 55 2 vs m (cellsW f n C B m)) :
    Calls Tryd.prog 66 #[zoneV ((m : Int) - 1) (some ⟨ga, 0, none⟩) (m * m) ca, zoneV ((m : Int) - 1) (some ⟨gb, 0, none⟩) (m * m) cb, vs] w (RetMv w m (mvL m f n C B (spots h0 (m * m)))) := by
  obtain ⟨i0, hi0, hz0, hz1, hz2⟩ := info_parts binfo
  obtain ⟨gs, cs, rfl⟩ := slice_own os h0
  have hA : ∀ k, k < m → ∀ W, Below w.heap.size w W → Calls Tryd.prog 77 #[zoneV ((m : Int) - 1) (some ⟨ga, 0, none⟩) (m * m) ca, .int .i64 (k : Int)] W (RetSpan (-C 0 k) (C k 0) W) := fun k hk W hb => by
    have q := zspan_any h7 h0 hk hC (own_kept_below oa hb)
    have c := closed_span hC h0 hk
    rcases of_cases (-C 0 k) (C k 0) with ⟨_, e1, e2⟩ | ⟨e, _, _⟩
    · rw [e1, e2, show max (-C 0 k) (-1152921504606846976) = -C 0 k by omega, show min (C k 0) 1152921504606846976 = C k 0 by omega] at q
      exact q
    · omega
  have hSp : ∀ k, k < m → ∀ W, Below w.heap.size w W → W.cell? ⟨gs, k * 2, none⟩ = some (.int .i64 (wL f n C B k)) ∧ W.cell? ⟨gs, k * 2 + 1, none⟩ = some (.int .i64 (wH f n C B k)) := fun k hk W hb => by
    have q := own_kept_below os hb
    have e := cellsW_at f n C B hk
    have hl := cellsW_len f n C B m
    exact ⟨(q.cellAt (k * 2) (by omega)).trans e.1, (q.cellAt (k * 2 + 1) (by omega)).trans e.2⟩
  have HA := Lib.hid hA
  have HSp := Lib.hid hSp
  have H0 := Lib.hid h0
  have H7 := Lib.hid h7
  have HOa := Lib.hid oa
  have HOb := Lib.hid ob
  have T := Lib.hid (md_new w m ga ca gb cb (farB f n C B))
  clear oa ob os hA hSp hC
  refine (callsIn_wide (n := 3)).1 ?_
  refine callsIn_of_wp_marks Tryd.func66 rfl trivial ?_ rfl
  simp only [Tryd.ntmps66, List.size_toArray, List.length_cons, List.length_nil, Nat.reduceAdd, Nat.reduceSub, Array.replicate_succ, Array.replicate_zero, List.push_toArray, List.append_toArray, List.nil_append, List.cons_append]
  refine wpIn_wide.2 ?_
  go_wp2_with fail
  go_loopg [15] m (fun gk t wr => ∃ (k : Nat) (v : Value), k + gk = m ∧ t = .int .i64 (k : Int) ∧ MD w m ga ca gb cb (farB f n C B) v k wr)
  case atStart => exact ⟨0, _, by omega, rfl, T.out⟩
  case round =>
    rename Nat => g0
    obtain ⟨k, v, hk', rfl, hD⟩ := hrel
    have HK := Lib.hid hk'
    have X := Lib.hid hD
    clear hk' hD T
    by_cases hkm : k < m
    · have d4 : decide ((k : Int) < (m : Int)) = true := decide_eq_true (by omega)
      have HAk := Lib.hid (HA.out k hkm)
      obtain ⟨c0, c1⟩ := HSp.out k hkm wr X.out.low
      have HF : Hid (farB f n C B k = !sameB (wL f n C B k) (wH f n C B k) (-C 0 k) (C k 0)) := Lib.hid rfl
      have wk : IntKind.i64.wrap ((k : Int) + 1) = (k : Int) + 1 := IntWalk.i64_in _ (by have := H7.out; omega)
      have HM : Hid (k + 1 ≤ maxLen ∧ (k + 1) * 1 ≤ 140737488355328) := Lib.hid (by have := H7.out; unfold maxLen; omega)
      obtain ⟨l, hl⟩ : ∃ x, wL f n C B k = x := ⟨_, rfl⟩
      obtain ⟨h, hh⟩ : ∃ x, wH f n C B k = x := ⟨_, rfl⟩
      obtain ⟨p, hp⟩ : ∃ x, -C 0 k = x := ⟨_, rfl⟩
      obtain ⟨q, hq⟩ : ∃ x, C k 0 = x := ⟨_, rfl⟩
      rw [hl, hh, hp, hq] at HF
      rw [hl] at c0
      rw [hh] at c1
      rw [hp, hq] at HAk
      have HAdd : Hid (∀ W W1 v1 o, MS w wr.heap.size m ga ca gb cb (farB f n C B) v k l h W → W1.ownsRow (w.heap.size + 3) 4 1 v1 (k + 1) (boolsL k (farB f n C B) ++ [.bool (!sameB l h p q)]) → (W.alloc o).grownBy W1 v.ownBlock → MS w wr.heap.size m ga ca gb cb (farB f n C B) v1 (k + 1) l h (W1.setCell ⟨w.heap.size + 1 + 1, 0, none⟩ v1) ∧ (W1.cell? ⟨w.heap.size + 1 + 1, 0, none⟩ = some v ∧ W1.frozen? ⟨w.heap.size + 1 + 1, 0, none⟩ = false ∧ w.heap.size + 1 + 1 < W1.heap.size) ∧
    (W1.cell? ⟨wr.heap.size, 0, none⟩ = some (.int .i64 l) ∧ W1.cell? ⟨wr.heap.size, 1, none⟩ = some (.int .i64 h)) ∧ W1.cell? ⟨w.heap.size, 0, none⟩ = some (.int .i64 ((m : Int) - 1)) ∧ W1.cell? ⟨w.heap.size, 1, none⟩ = some (.slice (some ⟨ga, 0, none⟩) (m * m) ca)) := Lib.hid (by
        rw [← HF.out]
        exact fun W W1 v1 o a b c => a.add b c)
      clear hl hh hp hq
      have M0 : Hid (MS w wr.heap.size m ga ca gb cb (farB f n C B) v k l h (wr.alloc (.cells #[.int .i64 l, .int .i64 h] 55)).drew) := Lib.hid (MS.below ⟨X.out.below (zboxed wr _), Duo.new wr _ _ _, X.out.fb.lt⟩ (Below.refl _ _).drew)
      go_wp2_with fail
      refine wp_region_noPanic ?_
      refine wp_region_held_drew (S := fun w' => (w'.cell? ⟨wr.heap.size, 0, none⟩ = some (.int .i64 l) ∧ w'.cell? ⟨wr.heap.size, 1, none⟩ = some (.int .i64 h)) ∧ w'.cell? ⟨w.heap.size, 0, none⟩ = some (.int .i64 ((m : Int) - 1)) ∧ w'.cell? ⟨w.heap.size, 1, none⟩ = some (.slice (some ⟨ga, 0, none⟩) (m * m) ca)) (by kernel_rfl) M0.out.s (fun hH0 => ?_)
      refine wpAnyH_take (i := 1) (oi := ⟨some 21, _, _, _, _, _⟩) (v := ?_) rfl (by kernel_rfl) (by kernel_rfl) (by kernel_rfl) (fun _ _ _ h => h) (Or.inl ⟨by rfl, ?_⟩) hH0 ?_
      rotate_left
      · intro w hSw
        try dsimp only at hSw
        go_simp
        try with_reducible rfl
      try simp only [Act.put, List.setIfInBounds_toArray, List.set_cons_zero, List.set_cons_succ]
      refine wpAnyH_take (i := 2) (oi := ⟨some 22, _, _, _, _, _⟩) (v := ?_) rfl (by kernel_rfl) (by kernel_rfl) (by kernel_rfl) (fun _ _ _ h => h) (Or.inl ⟨by rfl, ?_⟩) hH0 ?_
      rotate_left
      · intro w hSw
        try dsimp only at hSw
        go_simp
        try with_reducible rfl
      try simp only [Act.put, List.setIfInBounds_toArray, List.set_cons_zero, List.set_cons_succ]
      refine wpAnyH_take (i := 3) (oi := ⟨some 23, _, _, _, _, _⟩) (v := ?_) rfl (by kernel_rfl) (by kernel_rfl) (by kernel_rfl) (fun _ _ _ h => h) (Or.inl ⟨by rfl, ?_⟩) hH0 ?_
      rotate_left
      · intro w hSw
        try dsimp only at hSw
        go_simp
        try with_reducible rfl
      try simp only [Act.put, List.setIfInBounds_toArray, List.set_cons_zero, List.set_cons_succ]
      refine wpAnyH_ready (rs := [0, 4]) (by kernel_rfl) (by simp) ?_
      refine (AllReadyH.cons (o := ⟨some 20, _, _, _, _, _⟩) rfl (fun K hK => ?_) (AllReadyH.cons (o := ⟨some 24, _, _, _, _, _⟩) rfl (fun K hK => ?_) AllReadyH.nil))
      · have zf := M0.out.md.fb.cell
        go_simp
        refine hK.out _ _ (M0.out.s) (fun hL0 => ?_)
        clear hK K
        try simp only [Act.put, List.setIfInBounds_toArray, List.set_cons_zero, List.set_cons_succ]
        clear zf
        refine wpAnyH_ready (rs := [4]) (by kernel_rfl) (by simp) ?_
        refine (AllReadyH.cons (o := ⟨some 24, _, _, _, _, _⟩) rfl (fun K hK => ?_) AllReadyH.nil)
        go_simp
        refine (HAk.out _ M0.out.md.low).mono ?_
        rintro e w4 ⟨rfl, hb4⟩
        have M4 := Lib.hid (M0.out.below hb4)
        clear hb4
        go_wp2_with fail
        refine hK.out _ _ (M4.out.s) (fun hH1 => ?_)
        clear hK K
        try simp only [Act.put, List.setIfInBounds_toArray, List.set_cons_zero, List.set_cons_succ]
        refine wpAnyH_take (i := 5) (oi := ⟨some 25, _, _, _, _, _⟩) (v := ?_) rfl (by kernel_rfl) (by kernel_rfl) (by kernel_rfl) (fun _ _ _ h => h) (Or.inl ⟨by rfl, ?_⟩) hH1 ?_
        rotate_left
        · intro w hSw
          try dsimp only at hSw
          go_simp
          try with_reducible rfl
        try simp only [Act.put, List.setIfInBounds_toArray, List.set_cons_zero, List.set_cons_succ]
        refine wpAnyH_ready (rs := [6]) (by kernel_rfl) (by simp) ?_
        refine (AllReadyH.cons (o := ⟨some 26, _, _, _, _, _⟩) rfl (fun K hK => ?_) AllReadyH.nil)
        have M5 := Lib.hid (M4.out.below (zboxed w4 (.cells #[.bool (!sameB l h p q)] 4)))
        go_simp
        refine hK.out _ _ (M5.out.s) (fun hH2 => ?_)
        clear hK K
        try simp only [Act.put, List.setIfInBounds_toArray, List.set_cons_zero, List.set_cons_succ]
        refine wpAnyH_ready (rs := [7]) (by kernel_rfl) (by simp) ?_
        refine (AllReadyH.cons (o := ⟨some 27, _, _, _, _, _⟩) rfl (fun K hK => ?_) AllReadyH.nil)
        rw [if_pos (by rfl)]
        refine wp_append_at (.tmp 20) (.tmp 26) 88 rfl (w.heap.size + 3) 4 i0 (.bool false) 1 1 Tryd.underlying88 hi0 hz0 hz1 hz2 rfl (by decide) v k (boolsL k (farB f n C B)) rfl M5.out.md.row ⟨w4.heap.size, 0, none⟩ 1 1 [.bool (!sameB l h p q)] rfl rfl (news_one w4 _ _) (by simp [Value.oneCell']) HM.out.1 HM.out.2 (Nat.le_of_lt (Nat.lt_of_le_of_lt M5.out.far M5.out.sb.lt)) ?_
        intro v7 w7 ho7 hg7 hl7
        obtain ⟨g7, c7, rfl⟩ := slice_own ho7 (Nat.succ_pos k)
        have A7 := Lib.hid (HAdd.out _ _ _ _ M4.out ho7 hg7)
        clear ho7 hg7 hl7
        refine hK.out _ _ (A7.out.2.2) (fun hH3 => ?_)
        clear hK K
        try simp only [Act.put, List.setIfInBounds_toArray, List.set_cons_zero, List.set_cons_succ]
        refine wpAnyH_ready (rs := [8]) (by kernel_rfl) (by simp) ?_
        refine (AllReadyH.cons (o := ⟨none, _, _, _, _, _⟩) rfl (fun K hK => ?_) AllReadyH.nil)
        obtain ⟨z0, z1, z2⟩ := A7.out.2.1
        go_simp
        refine hK.out _ _ (A7.out.1.s) (fun hH4 => ?_)
        clear hK K
        try simp only [Act.put, List.setIfInBounds_toArray, List.set_cons_zero, List.set_cons_succ]
        clear z0 z1 z2
        refine wpAnyH_done (by kernel_rfl) (NoPanic.normal ?_) _
        go_wp2_with fail
        have hk' := HK.out
        go_roundg (g0 - 1)
        case measure => omega
        case rel => exact ⟨k + 1, _, by omega, by simp, A7.out.1.md⟩
      · go_simp
        refine (HAk.out _ M0.out.md.low).mono ?_
        rintro e w4 ⟨rfl, hb4⟩
        have M4 := Lib.hid (M0.out.below hb4)
        clear hb4
        go_wp2_with fail
        refine hK.out _ _ (M4.out.s) (fun hH1 => ?_)
        clear hK K
        try simp only [Act.put, List.setIfInBounds_toArray, List.set_cons_zero, List.set_cons_succ]
        refine wpAnyH_take (i := 5) (oi := ⟨some 25, _, _, _, _, _⟩) (v := ?_) rfl (by kernel_rfl) (by kernel_rfl) (by kernel_rfl) (fun _ _ _ h => h) (Or.inl ⟨by rfl, ?_⟩) hH1 ?_
        rotate_left
        · intro w hSw
          try dsimp only at hSw
          go_simp
          try with_reducible rfl
        try simp only [Act.put, List.setIfInBounds_toArray, List.set_cons_zero, List.set_cons_succ]
        refine wpAnyH_ready (rs := [0, 6]) (by kernel_rfl) (by simp) ?_
        refine (AllReadyH.cons (o := ⟨some 20, _, _, _, _, _⟩) rfl (fun K hK => ?_) (AllReadyH.cons (o := ⟨some 26, _, _, _, _, _⟩) rfl (fun K hK => ?_) AllReadyH.nil))
        · have zf := M4.out.md.fb.cell
          go_simp
          refine hK.out _ _ (M4.out.s) (fun hL1 => ?_)
          clear hK K
          try simp only [Act.put, List.setIfInBounds_toArray, List.set_cons_zero, List.set_cons_succ]
          clear zf
          refine wpAnyH_ready (rs := [6]) (by kernel_rfl) (by simp) ?_
          refine (AllReadyH.cons (o := ⟨some 26, _, _, _, _, _⟩) rfl (fun K hK => ?_) AllReadyH.nil)
          have M5 := Lib.hid (M4.out.below (zboxed w4 (.cells #[.bool (!sameB l h p q)] 4)))
          go_simp
          refine hK.out _ _ (M5.out.s) (fun hH2 => ?_)
          clear hK K
          try simp only [Act.put, List.setIfInBounds_toArray, List.set_cons_zero, List.set_cons_succ]
          refine wpAnyH_ready (rs := [7]) (by kernel_rfl) (by simp) ?_
          refine (AllReadyH.cons (o := ⟨some 27, _, _, _, _, _⟩) rfl (fun K hK => ?_) AllReadyH.nil)
          rw [if_pos (by rfl)]
          refine wp_append_at (.tmp 20) (.tmp 26) 88 rfl (w.heap.size + 3) 4 i0 (.bool false) 1 1 Tryd.underlying88 hi0 hz0 hz1 hz2 rfl (by decide) v k (boolsL k (farB f n C B)) rfl M5.out.md.row ⟨w4.heap.size, 0, none⟩ 1 1 [.bool (!sameB l h p q)] rfl rfl (news_one w4 _ _) (by simp [Value.oneCell']) HM.out.1 HM.out.2 (Nat.le_of_lt (Nat.lt_of_le_of_lt M5.out.far M5.out.sb.lt)) ?_
          intro v7 w7 ho7 hg7 hl7
          obtain ⟨g7, c7, rfl⟩ := slice_own ho7 (Nat.succ_pos k)
          have A7 := Lib.hid (HAdd.out _ _ _ _ M4.out ho7 hg7)
          clear ho7 hg7 hl7
          refine hK.out _ _ (A7.out.2.2) (fun hH3 => ?_)
          clear hK K
          try simp only [Act.put, List.setIfInBounds_toArray, List.set_cons_zero, List.set_cons_succ]
          refine wpAnyH_ready (rs := [8]) (by kernel_rfl) (by simp) ?_
          refine (AllReadyH.cons (o := ⟨none, _, _, _, _, _⟩) rfl (fun K hK => ?_) AllReadyH.nil)
          obtain ⟨z0, z1, z2⟩ := A7.out.2.1
          go_simp
          refine hK.out _ _ (A7.out.1.s) (fun hH4 => ?_)
          clear hK K
          try simp only [Act.put, List.setIfInBounds_toArray, List.set_cons_zero, List.set_cons_succ]
          clear z0 z1 z2
          refine wpAnyH_done (by kernel_rfl) (NoPanic.normal ?_) _
          go_wp2_with fail
          have hk' := HK.out
          go_roundg (g0 - 1)
          case measure => omega
          case rel => exact ⟨k + 1, _, by omega, by simp, A7.out.1.md⟩
        · have M5 := Lib.hid (M4.out.below (zboxed w4 (.cells #[.bool (!sameB l h p q)] 4)))
          go_simp
          refine hK.out _ _ (M5.out.s) (fun hH2 => ?_)
          clear hK K
          try simp only [Act.put, List.setIfInBounds_toArray, List.set_cons_zero, List.set_cons_succ]
          refine wpAnyH_ready (rs := [0]) (by kernel_rfl) (by simp) ?_
          refine (AllReadyH.cons (o := ⟨some 20, _, _, _, _, _⟩) rfl (fun K hK => ?_) AllReadyH.nil)
          have zf := M5.out.md.fb.cell
          go_simp
          refine hK.out _ _ (M5.out.s) (fun hL2 => ?_)
          clear hK K
          try simp only [Act.put, List.setIfInBounds_toArray, List.set_cons_zero, List.set_cons_succ]
          clear zf
          refine wpAnyH_ready (rs := [7]) (by kernel_rfl) (by simp) ?_
          refine (AllReadyH.cons (o := ⟨some 27, _, _, _, _, _⟩) rfl (fun K hK => ?_) AllReadyH.nil)
          rw [if_pos (by rfl)]
          refine wp_append_at (.tmp 20) (.tmp 26) 88 rfl (w.heap.size + 3) 4 i0 (.bool false) 1 1 Tryd.underlying88 hi0 hz0 hz1 hz2 rfl (by decide) v k (boolsL k (farB f n C B)) rfl M5.out.md.row ⟨w4.heap.size, 0, none⟩ 1 1 [.bool (!sameB l h p q)] rfl rfl (news_one w4 _ _) (by simp [Value.oneCell']) HM.out.1 HM.out.2 (Nat.le_of_lt (Nat.lt_of_le_of_lt M5.out.far M5.out.sb.lt)) ?_
          intro v7 w7 ho7 hg7 hl7
          obtain ⟨g7, c7, rfl⟩ := slice_own ho7 (Nat.succ_pos k)
          have A7 := Lib.hid (HAdd.out _ _ _ _ M4.out ho7 hg7)
          clear ho7 hg7 hl7
          refine hK.out _ _ (A7.out.2.2) (fun hH3 => ?_)
          clear hK K
          try simp only [Act.put, List.setIfInBounds_toArray, List.set_cons_zero, List.set_cons_succ]
          refine wpAnyH_ready (rs := [8]) (by kernel_rfl) (by simp) ?_
          refine (AllReadyH.cons (o := ⟨none, _, _, _, _, _⟩) rfl (fun K hK => ?_) AllReadyH.nil)
          obtain ⟨z0, z1, z2⟩ := A7.out.2.1
          go_simp
          refine hK.out _ _ (A7.out.1.s) (fun hH4 => ?_)
          clear hK K
          try simp only [Act.put, List.setIfInBounds_toArray, List.set_cons_zero, List.set_cons_succ]
          clear z0 z1 z2
          refine wpAnyH_done (by kernel_rfl) (NoPanic.normal ?_) _
          go_wp2_with fail
          have hk' := HK.out
          go_roundg (g0 - 1)
          case measure => omega
          case rel => exact ⟨k + 1, _, by omega, by simp, A7.out.1.md⟩
    · have d4 : decide ((k : Int) < (m : Int)) = false := decide_eq_false (by omega)
      have hke : m = k := by have := HK.out; omega
      subst hke
      obtain ⟨gf, cf, rfl⟩ := slice_own X.out.row H0.out
      have HCl : Hid (∀ W, Below wr.heap.size wr W → Calls Tryd.prog 78 #[.slice (some ⟨gf, 0, none⟩) m cf] W (RetCl 4 1 m (boolsL m (farB f n C B)) W)) := Lib.hid fun W hb => clone_bools (own_kept_below X.out.row hb) (by have := H7.out; omega) (boolsL_one _ _)
      have f0 := X.out.fb.cell
      have f1 := X.out.fb.lt
      have f2 := X.out.za.lt
      have HG : Hid (gf < wr.heap.size ∧ w.heap.size + 3 ≤ wr.heap.size) := Lib.hid ⟨(X.out.row.lt gf rfl).2, f1⟩
      go_wp2_with (first
        | (go_at_call 78; ((with_reducible refine (HCl.out _ (Below.refl _ _)).mono ?_); rintro e w5 ⟨v5, rfl, ho5, hb5⟩); obtain ⟨gm, cm, h5⟩ := slice_own ho5 H0.out; subst h5; have X5 := Lib.hid (X.out.below hb5); have c0 := X5.out.za.cell0; have c1 := X5.out.za.lt; have O5 := Lib.hid ho5; have H5 := Lib.hid hb5.size; clear ho5 hb5)
        | (go_at_call 51; ((with_reducible refine (cells_any _ _).mono ?_); rintro e w2 ⟨rfl, rfl⟩)))
      have GM : Hid (gm < w5.heap.size ∧ wr.heap.size ≤ gm) := Lib.hid ⟨(O5.out.lt gm rfl).2, (O5.out.lt gm rfl).1⟩
      have hI0 : MO w m ga ca gb cb gf cf gm cm w5.heap.size (farB f n C B) (mvL m f n C B []) ((w5.alloc (.cells #[.slice (some ⟨gm, 0, none⟩) m cm] 88)).alloc (.cells #[.int .i64 ((m : Int) - 1)] 3)) := by
        have g1 := GM.out
        have g2 := HG.out
        refine MO.below (MO.congr (T := farB f n C B) ⟨X5.out.below (zboxed _ _), Boxed.new w5 _ _, own_lower (own_kept_below O5.out (zboxed _ _)) (by omega), by omega, by omega, by omega⟩ (fun k _ => ?_)) (zboxed _ _)
        unfold mvL
        simp
      have HI0 := Lib.hid hI0
      have hcb := Boxed.new (w5.alloc (.cells #[.slice (some ⟨gm, 0, none⟩) m cm] 88)) 3 (.int .i64 ((m : Int) - 1))
      rw [World.size_alloc] at hcb
      have hw5 : w.heap.size ≤ w5.heap.size := by have := H5.out; have := HG.out; omega
      clear hI0 c0 c1 f0 f1 f2 X
      refine (wpIn_wide (n := 3)).1 ?_
      refine wpIn_rangeFunc_ownG rfl (by omega) (gf := 69) (lb := #[.pointer (some ⟨w5.heap.size + 1, 0, none⟩)]) rfl trivial (enters_of Tryd.func69 (by kernel_rfl) rfl)
        (cells_stops Fence.wide 2 trivial rfl (by omega) (w5.heap.size + 1) m h7 h0 _ (by simp) hcb.cell) cellKept_t (cellKept_b (by simp)) (Below.refl _ _) (fun _ => rfl)
        (fun pre W => MO w m ga ca gb cb gf cf gm cm w5.heap.size (farB f n C B) (mvL m f n C B pre) W ∧ w5.heap.size + 1 < W.heap.size)
        (fun _ _ _ => False)
        (OwnFrom.and (mo_own _ (by simp; omega)) (fun _ _ _ _ h hg _ => Nat.lt_of_lt_of_le h hg.size)) (fun _ _ _ _ _ h _ _ => h) ⟨HI0.out, by simp⟩
        (fun x => { tmps := #[zoneV ((m : Int) - 1) (some ⟨ga, 0, none⟩) (m * m) ca, zoneV ((m : Int) - 1) (some ⟨gb, 0, none⟩) (m * m) cb, .slice (some ⟨gs, 0, none⟩) m cs, .pointer (some ⟨w.heap.size, 0, none⟩), .pointer (some ⟨w.heap.size + 1, 0, none⟩), undef, .slice none 0 0, .pointer (some ⟨w.heap.size + 1 + 1, 0, none⟩), u8, u9, .pointer (some ⟨w5.heap.size, 0, none⟩), .int .i64 (x.1.1 : Int), .int .i64 (x.1.2 : Int), .slice (some ⟨gs, 0, none⟩) m cs, .int .i64 m, .int .i64 m, .bool false, u17, u18, u19, u20, u21, u22, u23, u24, u25, u26, u27, u28, .slice (some ⟨gf, 0, none⟩) m cf, .slice (some ⟨gm, 0, none⟩) m cm, .pointer (some ⟨w.heap.size, 0, none⟩), .int .i64 ((m : Int) - 1), .func (.func 69) #[] #[.pointer (some ⟨w5.heap.size + 1, 0, none⟩)], .int .i64 (x.1.1 : Int), .int .i64 (x.1.2 : Int), undef, undef, undef, undef, undef, undef, undef, undef, undef, undef, undef, undef, undef, undef, undef, undef, undef, undef, undef, undef, undef, undef, undef, undef, undef, undef, undef, undef, undef, undef], defers := [] }) ?assign ?body ?done ?stop
      case assign =>
        intro l x W K hK
        gi_wp2
        exact hK
      case body =>
        rintro l pre ⟨⟨i, j⟩, hi, hj⟩ W ⟨hS, hcW⟩ hlen
        dsimp only at hi hj ⊢
        obtain ⟨B0, hB0⟩ : ∃ B0, B0 = ((w5.alloc (.cells #[.slice (some ⟨gm, 0, none⟩) m cm] 88)).alloc (.cells #[.int .i64 ((m : Int) - 1)] 3)).heap.size := ⟨_, rfl⟩
        have hi' : (i : Int) < (m : Int) := by omega
        have hj' : (j : Int) < (m : Int) := by omega
        clear HA
        have HA := Lib.hid (fun (W' : World) (h : Below w.heap.size w W') => at_own h7 hi hj (own_kept_below HOa.out h))
        have HB := Lib.hid (fun (W' : World) (h : Below w.heap.size w W') => at_own h7 hi hj (own_kept_below HOb.out h))
        have M0 := Lib.hid (hS.below (Below.refl _ _).drew)
        clear hS
        rename_i K3 J K2 a3 a2 K1 a1 K0 a0
        clear a0 a1 a2 a3 HI0 hcb HCl HSp hkm d4
        cases qi : farB f n C B i
        · cases qj : farB f n C B j
          · by_cases hlt : C i j < B i j
            · have HS : Hid (∀ W', MO w m ga ca gb cb gf cf gm cm w5.heap.size (farB f n C B) (mvL m f n C B pre) W' → (fun W' => (W'.cell? ⟨w.heap.size + 1 + 1, 0, none⟩ = some (.slice (some ⟨gf, 0, none⟩) m cf) ∧ W'.cell? ⟨gf, i, none⟩ = some (.bool false) ∧ W'.cell? ⟨gf, j, none⟩ = some (.bool false)) ∧ (W'.cell? ⟨w.heap.size, 0, none⟩ = some (.int .i64 ((m : Int) - 1)) ∧ W'.cell? ⟨w.heap.size, 1, none⟩ = some (.slice (some ⟨ga, 0, none⟩) (m * m) ca)) ∧ W'.cell? ⟨w.heap.size + 1, 0, none⟩ = some (.int .i64 ((m : Int) - 1)) ∧ W'.cell? ⟨w.heap.size + 1, 1, none⟩ = some (.slice (some ⟨gb, 0, none⟩) (m * m) cb)) W') := Lib.hid fun W' h => by
                have q := h.s hi hj
                rw [qi, qj] at q
                exact q
              have hd : decide (C i j < B i j) = true := decide_eq_true hlt
              have hc : (!farB f n C B i && (!farB f n C B j && decide (C i j < B i j))) = true := by rw [qi, qj, hd]; rfl
              gi_wp2
              refine wpIn_held (S := fun W' => (W'.cell? ⟨w.heap.size + 1 + 1, 0, none⟩ = some (.slice (some ⟨gf, 0, none⟩) m cf) ∧ W'.cell? ⟨gf, i, none⟩ = some (.bool false) ∧ W'.cell? ⟨gf, j, none⟩ = some (.bool false)) ∧ (W'.cell? ⟨w.heap.size, 0, none⟩ = some (.int .i64 ((m : Int) - 1)) ∧ W'.cell? ⟨w.heap.size, 1, none⟩ = some (.slice (some ⟨ga, 0, none⟩) (m * m) ca)) ∧ W'.cell? ⟨w.heap.size + 1, 0, none⟩ = some (.int .i64 ((m : Int) - 1)) ∧ W'.cell? ⟨w.heap.size + 1, 1, none⟩ = some (.slice (some ⟨gb, 0, none⟩) (m * m) cb)) (by kernel_rfl) (by kernel_rfl) (by rintro ⟨_, _, h⟩; exact h) (HS.out _ M0.out) (fun hH0 => ?_)
              simp only [List.size_toArray, List.length_cons, List.length_nil, Nat.reduceAdd, Array.replicate_succ, Array.replicate_zero, List.push_toArray, List.nil_append, List.cons_append]
              refine wpAnyH_take (i := 0) (oi := ⟨some 36, _, _, _, _, _⟩) (v := ?_) rfl (by kernel_rfl) (by kernel_rfl) (by kernel_rfl) (fun _ _ _ h => h) (Or.inl ⟨by rfl, ?_⟩) hH0 ?_
              rotate_left
              · intro w hSw
                try dsimp only at hSw
                go_simp
                try with_reducible rfl
              try simp only [Act.put, List.setIfInBounds_toArray, List.set_cons_zero, List.set_cons_succ]
              refine wpAnyH_take (i := 1) (oi := ⟨some 37, _, _, _, _, _⟩) (v := ?_) rfl (by kernel_rfl) (by kernel_rfl) (by kernel_rfl) (fun _ _ _ h => h) (Or.inl ⟨by rfl, ?_⟩) hH0 ?_
              rotate_left
              · intro w hSw
                try dsimp only at hSw
                go_simp
                try with_reducible rfl
              try simp only [Act.put, List.setIfInBounds_toArray, List.set_cons_zero, List.set_cons_succ]
              refine wpAnyH_take (i := 2) (oi := ⟨some 38, _, _, _, _, _⟩) (v := ?_) rfl (by kernel_rfl) (by kernel_rfl) (by kernel_rfl) (fun _ _ _ h => h) (Or.inl ⟨by rfl, ?_⟩) hH0 ?_
              rotate_left
              · intro w hSw
                try dsimp only at hSw
                go_simp
                try with_reducible rfl
              try simp only [Act.put, List.setIfInBounds_toArray, List.set_cons_zero, List.set_cons_succ]
              refine wpAnyH_take (i := 3) (oi := ⟨some 39, _, _, _, _, _⟩) (v := ?_) rfl (by kernel_rfl) (by kernel_rfl) (by kernel_rfl) (fun _ _ _ h => h) (Or.inl ⟨by rfl, ?_⟩) hH0 ?_
              rotate_left
              · intro w hSw
                try dsimp only at hSw
                go_simp
                try with_reducible rfl
              try simp only [Act.put, List.setIfInBounds_toArray, List.set_cons_zero, List.set_cons_succ]
              refine wpAnyH_take (i := 4) (oi := ⟨some 40, _, _, _, _, _⟩) (v := ?_) rfl (by kernel_rfl) (by kernel_rfl) (by kernel_rfl) (fun _ _ _ h => h) (Or.inl ⟨by rfl, ?_⟩) hH0 ?_
              rotate_left
              · intro w hSw
                try dsimp only at hSw
                go_simp
                try with_reducible rfl
              try simp only [Act.put, List.setIfInBounds_toArray, List.set_cons_zero, List.set_cons_succ]
              refine wpAnyH_take (i := 5) (oi := ⟨some 41, _, _, _, _, _⟩) (v := ?_) rfl (by kernel_rfl) (by kernel_rfl) (by kernel_rfl) (fun _ _ _ h => h) (Or.inl ⟨by rfl, ?_⟩) hH0 ?_
              rotate_left
              · intro w hSw
                try dsimp only at hSw
                go_simp
                try with_reducible rfl
              try simp only [Act.put, List.setIfInBounds_toArray, List.set_cons_zero, List.set_cons_succ]
              refine wpAnyH_take (i := 6) (oi := ⟨some 42, _, _, _, _, _⟩) (v := ?_) rfl (by kernel_rfl) (by kernel_rfl) (by kernel_rfl) (fun _ _ _ h => h) (Or.inl ⟨by rfl, ?_⟩) hH0 ?_
              rotate_left
              · intro w hSw
                try dsimp only at hSw
                go_simp
                try with_reducible rfl
              try simp only [Act.put, List.setIfInBounds_toArray, List.set_cons_zero, List.set_cons_succ]
              refine wpAnyH_take (i := 7) (oi := ⟨some 43, _, _, _, _, _⟩) (v := ?_) rfl (by kernel_rfl) (by kernel_rfl) (by kernel_rfl) (fun _ _ _ h => h) (Or.inl ⟨by rfl, ?_⟩) hH0 ?_
              rotate_left
              · intro w hSw
                try dsimp only at hSw
                go_simp
                try with_reducible rfl
              try simp only [Act.put, List.setIfInBounds_toArray, List.set_cons_zero, List.set_cons_succ]
              refine wpAnyH_take (i := 8) (oi := ⟨some 44, _, _, _, _, _⟩) (v := ?_) rfl (by kernel_rfl) (by kernel_rfl) (by kernel_rfl) (fun _ _ _ h => h) (Or.inl ⟨by rfl, ?_⟩) hH0 ?_
              rotate_left
              · intro w hSw
                try dsimp only at hSw
                go_simp
                try with_reducible rfl
              try simp only [Act.put, List.setIfInBounds_toArray, List.set_cons_zero, List.set_cons_succ]
              refine wpAnyH_take (i := 9) (oi := ⟨some 45, _, _, _, _, _⟩) (v := ?_) rfl (by kernel_rfl) (by kernel_rfl) (by kernel_rfl) (fun _ _ _ h => h) (Or.inl ⟨by rfl, ?_⟩) hH0 ?_
              rotate_left
              · intro w hSw
                try dsimp only at hSw
                go_simp
                try with_reducible rfl
              try simp only [Act.put, List.setIfInBounds_toArray, List.set_cons_zero, List.set_cons_succ]
              refine wpAnyH_take (i := 10) (oi := ⟨some 46, _, _, _, _, _⟩) (v := ?_) rfl (by kernel_rfl) (by kernel_rfl) (by kernel_rfl) (fun _ _ _ h => h) (Or.inl ⟨by rfl, ?_⟩) hH0 ?_
              rotate_left
              · intro w hSw
                try dsimp only at hSw
                go_simp
                try with_reducible rfl
              try simp only [Act.put, List.setIfInBounds_toArray, List.set_cons_zero, List.set_cons_succ]
              refine wpAnyH_take (i := 11) (oi := ⟨some 47, _, _, _, _, _⟩) (v := ?_) rfl (by kernel_rfl) (by kernel_rfl) (by kernel_rfl) (fun _ _ _ h => h) (Or.inl ⟨by rfl, ?_⟩) hH0 ?_
              rotate_left
              · intro w hSw
                try dsimp only at hSw
                go_simp
                try with_reducible rfl
              try simp only [Act.put, List.setIfInBounds_toArray, List.set_cons_zero, List.set_cons_succ]
              refine wpAnyH_take (i := 12) (oi := ⟨some 48, _, _, _, _, _⟩) (v := ?_) rfl (by kernel_rfl) (by kernel_rfl) (by kernel_rfl) (fun _ _ _ h => h) (Or.inl ⟨by rfl, ?_⟩) hH0 ?_
              rotate_left
              · intro w hSw
                try dsimp only at hSw
                go_simp
                try with_reducible rfl
              try simp only [Act.put, List.setIfInBounds_toArray, List.set_cons_zero, List.set_cons_succ]
              refine wpAnyH_take (i := 13) (oi := ⟨some 49, _, _, _, _, _⟩) (v := ?_) rfl (by kernel_rfl) (by kernel_rfl) (by kernel_rfl) (fun _ _ _ h => h) (Or.inl ⟨by rfl, ?_⟩) hH0 ?_
              rotate_left
              · intro w hSw
                try dsimp only at hSw
                go_simp
                try with_reducible rfl
              try simp only [Act.put, List.setIfInBounds_toArray, List.set_cons_zero, List.set_cons_succ]
              refine wpAnyH_take (i := 14) (oi := ⟨some 50, _, _, _, _, _⟩) (v := ?_) rfl (by kernel_rfl) (by kernel_rfl) (by kernel_rfl) (fun _ _ _ h => h) (Or.inl ⟨by rfl, ?_⟩) hH0 ?_
              rotate_left
              · intro w hSw
                try dsimp only at hSw
                go_simp
                try with_reducible rfl
              try simp only [Act.put, List.setIfInBounds_toArray, List.set_cons_zero, List.set_cons_succ]
              refine wpAnyH_take (i := 15) (oi := ⟨some 51, _, _, _, _, _⟩) (v := ?_) rfl (by kernel_rfl) (by kernel_rfl) (by kernel_rfl) (fun _ _ _ h => h) (Or.inl ⟨by rfl, ?_⟩) hH0 ?_
              rotate_left
              · intro w hSw
                try dsimp only at hSw
                go_simp
                try with_reducible rfl
              try simp only [Act.put, List.setIfInBounds_toArray, List.set_cons_zero, List.set_cons_succ]
              refine wpAnyH_take (i := 17) (oi := ⟨some 53, _, _, _, _, _⟩) (v := ?_) rfl (by kernel_rfl) (by kernel_rfl) (by kernel_rfl) (fun _ _ _ h => h) (Or.inl ⟨by rfl, ?_⟩) hH0 ?_
              rotate_left
              · intro w hSw
                try dsimp only at hSw
                go_simp
                try with_reducible rfl
              try simp only [Act.put, List.setIfInBounds_toArray, List.set_cons_zero, List.set_cons_succ]
              refine wpAnyH_take (i := 18) (oi := ⟨some 54, _, _, _, _, _⟩) (v := ?_) rfl (by kernel_rfl) (by kernel_rfl) (by kernel_rfl) (fun _ _ _ h => h) (Or.inl ⟨by rfl, ?_⟩) hH0 ?_
              rotate_left
              · intro w hSw
                try dsimp only at hSw
                go_simp
                try with_reducible rfl
              try simp only [Act.put, List.setIfInBounds_toArray, List.set_cons_zero, List.set_cons_succ]
              refine wpAnyH_take (i := 19) (oi := ⟨some 55, _, _, _, _, _⟩) (v := ?_) rfl (by kernel_rfl) (by kernel_rfl) (by kernel_rfl) (fun _ _ _ h => h) (Or.inl ⟨by rfl, ?_⟩) hH0 ?_
              rotate_left
              · intro w hSw
                try dsimp only at hSw
                go_simp
                try with_reducible rfl
              try simp only [Act.put, List.setIfInBounds_toArray, List.set_cons_zero, List.set_cons_succ]
              refine wpAnyH_ready (rs := [16]) (by kernel_rfl) (by simp) ?_
              refine AllReadyH.cons (o := ⟨some 52, _, _, _, _, _⟩) rfl (fun K hK => ?_) AllReadyH.nil
              go_simp
              refine (HB.out _ M0.out.md.low).mono ?_
              rintro e W1 ⟨rfl, hb1⟩
              have M1 := Lib.hid (M0.out.below hb1); have D1 : Hid (Below W.heap.size W W1) := Lib.hid ⟨hb1.os, hb1.tape, hb1.output, hb1.size, hb1.block⟩; clear hb1
              go_wp2_with fail
              refine hK.out _ _ (HS.out _ M1.out) (fun hH1 => ?_)
              clear hK K hH0
              try simp only [List.setIfInBounds_toArray, List.set_cons_zero, List.set_cons_succ]
              refine wpAnyH_ready (rs := [20]) (by kernel_rfl) (by simp) ?_
              refine AllReadyH.cons (o := ⟨some 56, _, _, _, _, _⟩) rfl (fun K hK => ?_) AllReadyH.nil
              go_simp
              refine (HA.out _ M1.out.md.low).mono ?_
              rintro e W2 ⟨rfl, hb2⟩
              have M2 := Lib.hid (M1.out.below hb2); have D2 := Lib.hid (zthen D1.out hb2); clear hb2
              go_wp2_with fail
              refine hK.out _ _ (HS.out _ M2.out) (fun hH2 => ?_)
              clear hK K hH1
              try simp only [List.setIfInBounds_toArray, List.set_cons_zero, List.set_cons_succ]
              refine wpAnyH_take (i := 21) (oi := ⟨some 57, _, _, _, _, _⟩) (v := ?_) rfl (by kernel_rfl) (by kernel_rfl) (by kernel_rfl) (fun _ _ _ h => h) (Or.inl ⟨by rfl, ?_⟩) hH2 ?_
              rotate_left
              · intro w hSw
                try dsimp only at hSw
                go_simp
                try with_reducible rfl
              try simp only [Act.put, List.setIfInBounds_toArray, List.set_cons_zero, List.set_cons_succ]
              refine wpAnyH_take (i := 22) (oi := ⟨some 58, _, _, _, _, _⟩) (v := ?_) rfl (by kernel_rfl) (by kernel_rfl) (by kernel_rfl) (fun _ _ _ h => h) (Or.inl ⟨by rfl, ?_⟩) hH2 ?_
              rotate_left
              · intro w hSw
                try dsimp only at hSw
                go_simp
                try with_reducible rfl
              try simp only [Act.put, List.setIfInBounds_toArray, List.set_cons_zero, List.set_cons_succ]
              refine wpAnyH_done (by kernel_rfl) ?_ _
              have hb12 : Below W.heap.size W W2 := D2.out
              have P0 := Lib.hid (M2.out.below (Below.refl _ _).drew)
              gi_wp2
              have P1 := Lib.hid (P0.out.set hi)
              have P2 := Lib.hid (P1.out.set hj)
              obtain ⟨x0, x1, x2⟩ := P0.out.at_ hi
              have Q0 := Lib.hid (M2.out.set hi)
              obtain ⟨y0, -, -⟩ := Q0.out.at_ hj
              obtain ⟨-, y1, -⟩ := M2.out.at_ hj
              have hbm := P0.out.apart.2.1
              refine wpIn_held (S := fun W' => W'.cell? ⟨w5.heap.size, 0, none⟩ = some (.slice (some ⟨gm, 0, none⟩) m cm)) (by kernel_rfl) (by kernel_rfl) (by rintro ⟨_, _, h⟩; exact h) P0.out.mb.cell (fun hG0 => ?_)
              simp only [List.size_toArray, List.length_cons, List.length_nil, Nat.reduceAdd, Array.replicate_succ, Array.replicate_zero, List.push_toArray, List.nil_append, List.cons_append]
              refine wpAnyH_take (i := 0) (oi := ⟨some 59, _, _, _, _, _⟩) (v := ?_) rfl (by kernel_rfl) (by kernel_rfl) (by kernel_rfl) (fun _ _ _ h => h) (Or.inl ⟨by rfl, ?_⟩) hG0 ?_
              rotate_left
              · intro w hSw
                try dsimp only at hSw
                go_simp
                try with_reducible rfl
              try simp only [Act.put, List.setIfInBounds_toArray, List.set_cons_zero, List.set_cons_succ]
              refine wpAnyH_take (i := 1) (oi := ⟨some 60, _, _, _, _, _⟩) (v := ?_) rfl (by kernel_rfl) (by kernel_rfl) (by kernel_rfl) (fun _ _ _ h => h) (Or.inl ⟨by rfl, ?_⟩) hG0 ?_
              rotate_left
              · intro w hSw
                try dsimp only at hSw
                go_simp
                try with_reducible rfl
              try simp only [Act.put, List.setIfInBounds_toArray, List.set_cons_zero, List.set_cons_succ]
              refine wpAnyH_take (i := 2) (oi := ⟨some 61, _, _, _, _, _⟩) (v := ?_) rfl (by kernel_rfl) (by kernel_rfl) (by kernel_rfl) (fun _ _ _ h => h) (Or.inl ⟨by rfl, ?_⟩) hG0 ?_
              rotate_left
              · intro w hSw
                try dsimp only at hSw
                go_simp
                try with_reducible rfl
              try simp only [Act.put, List.setIfInBounds_toArray, List.set_cons_zero, List.set_cons_succ]
              refine wpAnyH_take (i := 3) (oi := ⟨some 62, _, _, _, _, _⟩) (v := ?_) rfl (by kernel_rfl) (by kernel_rfl) (by kernel_rfl) (fun _ _ _ h => h) (Or.inl ⟨by rfl, ?_⟩) hG0 ?_
              rotate_left
              · intro w hSw
                try dsimp only at hSw
                go_simp
                try with_reducible rfl
              try simp only [Act.put, List.setIfInBounds_toArray, List.set_cons_zero, List.set_cons_succ]
              refine wpAnyH_take (i := 4) (oi := ⟨some 63, _, _, _, _, _⟩) (v := ?_) rfl (by kernel_rfl) (by kernel_rfl) (by kernel_rfl) (fun _ _ _ h => h) (Or.inl ⟨by rfl, ?_⟩) hG0 ?_
              rotate_left
              · intro w hSw
                try dsimp only at hSw
                go_simp
                try with_reducible rfl
              try simp only [Act.put, List.setIfInBounds_toArray, List.set_cons_zero, List.set_cons_succ]
              refine wpAnyH_ready (rs := [5]) (by kernel_rfl) (by simp) ?_
              refine (AllReadyH.cons (o := ⟨none, _, _, _, _, _⟩) rfl (fun K hK => ?_) AllReadyH.nil)
              go_simp
              refine hK.out _ _ (P1.out.mb.cell) (fun hG1 => ?_)
              clear hK K
              try simp only [List.setIfInBounds_toArray, List.set_cons_zero, List.set_cons_succ]
              refine wpAnyH_take (i := 6) (oi := ⟨some 64, _, _, _, _, _⟩) (v := ?_) rfl (by kernel_rfl) (by kernel_rfl) (by kernel_rfl) (fun _ _ _ h => h) (Or.inl ⟨by rfl, ?_⟩) hG1 ?_
              rotate_left
              · intro w hSw
                try dsimp only at hSw
                go_simp
                try with_reducible rfl
              try simp only [Act.put, List.setIfInBounds_toArray, List.set_cons_zero, List.set_cons_succ]
              refine wpAnyH_ready (rs := [7]) (by kernel_rfl) (by simp) ?_
              refine (AllReadyH.cons (o := ⟨none, _, _, _, _, _⟩) rfl (fun K hK => ?_) AllReadyH.nil)
              go_simp
              refine hK.out _ _ (P2.out.mb.cell) (fun hG2 => ?_)
              clear hK K
              try simp only [List.setIfInBounds_toArray, List.set_cons_zero, List.set_cons_succ]
              refine wpAnyH_done (by kernel_rfl) ?_ _
              have hb13 : Below W.heap.size W W2.drew := hb12.drew
              have k1 := ((keeps_below hb13 B0).trans (keeps_setCell W2.drew ⟨gm, i, none⟩ (.bool true) _)).trans (keeps_setCell _ ⟨gm, j, none⟩ (.bool true) _)
              gi_wp2
              subst hB0
              refine (⟨k1, ?_, P2.out.congr (fun k _ => mvL_yes (x := ⟨(i, j), hi, hj⟩) hc), ?_⟩ : KeepsFrom _ _ _ ∧ CellKept _ _ _ ∧ MO _ _ _ _ _ _ _ _ _ _ _ _ _ _ ∧ _)
              · have e := kept_below hb13 hcW
                have hgm := GM.out
                have e1 : ((W2.setCell ⟨gm, i, none⟩ (.bool true)).setCell ⟨gm, j, none⟩ (.bool true)).cell? ⟨w5.heap.size + 1, 0, none⟩ = W2.cell? ⟨w5.heap.size + 1, 0, none⟩ := by
                  rw [World.cell?_setCell_far _ _ _ _ (by simp; omega), World.cell?_setCell_far _ _ _ _ (by simp; omega)]
                exact e1.trans e
              · have := hb12.size
                simp; omega
            · have HS : Hid (∀ W', MO w m ga ca gb cb gf cf gm cm w5.heap.size (farB f n C B) (mvL m f n C B pre) W' → (fun W' => (W'.cell? ⟨w.heap.size + 1 + 1, 0, none⟩ = some (.slice (some ⟨gf, 0, none⟩) m cf) ∧ W'.cell? ⟨gf, i, none⟩ = some (.bool false) ∧ W'.cell? ⟨gf, j, none⟩ = some (.bool false)) ∧ (W'.cell? ⟨w.heap.size, 0, none⟩ = some (.int .i64 ((m : Int) - 1)) ∧ W'.cell? ⟨w.heap.size, 1, none⟩ = some (.slice (some ⟨ga, 0, none⟩) (m * m) ca)) ∧ W'.cell? ⟨w.heap.size + 1, 0, none⟩ = some (.int .i64 ((m : Int) - 1)) ∧ W'.cell? ⟨w.heap.size + 1, 1, none⟩ = some (.slice (some ⟨gb, 0, none⟩) (m * m) cb)) W') := Lib.hid fun W' h => by
                have q := h.s hi hj
                rw [qi, qj] at q
                exact q
              have hd : decide (C i j < B i j) = false := decide_eq_false hlt
              have hc : (!farB f n C B i && (!farB f n C B j && decide (C i j < B i j))) = false := by rw [qi, qj, hd]; rfl
              gi_wp2
              refine wpIn_held (S := fun W' => (W'.cell? ⟨w.heap.size + 1 + 1, 0, none⟩ = some (.slice (some ⟨gf, 0, none⟩) m cf) ∧ W'.cell? ⟨gf, i, none⟩ = some (.bool false) ∧ W'.cell? ⟨gf, j, none⟩ = some (.bool false)) ∧ (W'.cell? ⟨w.heap.size, 0, none⟩ = some (.int .i64 ((m : Int) - 1)) ∧ W'.cell? ⟨w.heap.size, 1, none⟩ = some (.slice (some ⟨ga, 0, none⟩) (m * m) ca)) ∧ W'.cell? ⟨w.heap.size + 1, 0, none⟩ = some (.int .i64 ((m : Int) - 1)) ∧ W'.cell? ⟨w.heap.size + 1, 1, none⟩ = some (.slice (some ⟨gb, 0, none⟩) (m * m) cb)) (by kernel_rfl) (by kernel_rfl) (by rintro ⟨_, _, h⟩; exact h) (HS.out _ M0.out) (fun hH0 => ?_)
              simp only [List.size_toArray, List.length_cons, List.length_nil, Nat.reduceAdd, Array.replicate_succ, Array.replicate_zero, List.push_toArray, List.nil_append, List.cons_append]
              refine wpAnyH_take (i := 0) (oi := ⟨some 36, _, _, _, _, _⟩) (v := ?_) rfl (by kernel_rfl) (by kernel_rfl) (by kernel_rfl) (fun _ _ _ h => h) (Or.inl ⟨by rfl, ?_⟩) hH0 ?_
              rotate_left
              · intro w hSw
                try dsimp only at hSw
                go_simp
                try with_reducible rfl
              try simp only [Act.put, List.setIfInBounds_toArray, List.set_cons_zero, List.set_cons_succ]
              refine wpAnyH_take (i := 1) (oi := ⟨some 37, _, _, _, _, _⟩) (v := ?_) rfl (by kernel_rfl) (by kernel_rfl) (by kernel_rfl) (fun _ _ _ h => h) (Or.inl ⟨by rfl, ?_⟩) hH0 ?_
              rotate_left
              · intro w hSw
                try dsimp only at hSw
                go_simp
                try with_reducible rfl
              try simp only [Act.put, List.setIfInBounds_toArray, List.set_cons_zero, List.set_cons_succ]
              refine wpAnyH_take (i := 2) (oi := ⟨some 38, _, _, _, _, _⟩) (v := ?_) rfl (by kernel_rfl) (by kernel_rfl) (by kernel_rfl) (fun _ _ _ h => h) (Or.inl ⟨by rfl, ?_⟩) hH0 ?_
              rotate_left
              · intro w hSw
                try dsimp only at hSw
                go_simp
                try with_reducible rfl
              try simp only [Act.put, List.setIfInBounds_toArray, List.set_cons_zero, List.set_cons_succ]
              refine wpAnyH_take (i := 3) (oi := ⟨some 39, _, _, _, _, _⟩) (v := ?_) rfl (by kernel_rfl) (by kernel_rfl) (by kernel_rfl) (fun _ _ _ h => h) (Or.inl ⟨by rfl, ?_⟩) hH0 ?_
              rotate_left
              · intro w hSw
                try dsimp only at hSw
                go_simp
                try with_reducible rfl
              try simp only [Act.put, List.setIfInBounds_toArray, List.set_cons_zero, List.set_cons_succ]
              refine wpAnyH_take (i := 4) (oi := ⟨some 40, _, _, _, _, _⟩) (v := ?_) rfl (by kernel_rfl) (by kernel_rfl) (by kernel_rfl) (fun _ _ _ h => h) (Or.inl ⟨by rfl, ?_⟩) hH0 ?_
              rotate_left
              · intro w hSw
                try dsimp only at hSw
                go_simp
                try with_reducible rfl
              try simp only [Act.put, List.setIfInBounds_toArray, List.set_cons_zero, List.set_cons_succ]
              refine wpAnyH_take (i := 5) (oi := ⟨some 41, _, _, _, _, _⟩) (v := ?_) rfl (by kernel_rfl) (by kernel_rfl) (by kernel_rfl) (fun _ _ _ h => h) (Or.inl ⟨by rfl, ?_⟩) hH0 ?_
              rotate_left
              · intro w hSw
                try dsimp only at hSw
                go_simp
                try with_reducible rfl
              try simp only [Act.put, List.setIfInBounds_toArray, List.set_cons_zero, List.set_cons_succ]
              refine wpAnyH_take (i := 6) (oi := ⟨some 42, _, _, _, _, _⟩) (v := ?_) rfl (by kernel_rfl) (by kernel_rfl) (by kernel_rfl) (fun _ _ _ h => h) (Or.inl ⟨by rfl, ?_⟩) hH0 ?_
              rotate_left
              · intro w hSw
                try dsimp only at hSw
                go_simp
                try with_reducible rfl
              try simp only [Act.put, List.setIfInBounds_toArray, List.set_cons_zero, List.set_cons_succ]
              refine wpAnyH_take (i := 7) (oi := ⟨some 43, _, _, _, _, _⟩) (v := ?_) rfl (by kernel_rfl) (by kernel_rfl) (by kernel_rfl) (fun _ _ _ h => h) (Or.inl ⟨by rfl, ?_⟩) hH0 ?_
              rotate_left
              · intro w hSw
                try dsimp only at hSw
                go_simp
                try with_reducible rfl
              try simp only [Act.put, List.setIfInBounds_toArray, List.set_cons_zero, List.set_cons_succ]
              refine wpAnyH_take (i := 8) (oi := ⟨some 44, _, _, _, _, _⟩) (v := ?_) rfl (by kernel_rfl) (by kernel_rfl) (by kernel_rfl) (fun _ _ _ h => h) (Or.inl ⟨by rfl, ?_⟩) hH0 ?_
              rotate_left
              · intro w hSw
                try dsimp only at hSw
                go_simp
                try with_reducible rfl
              try simp only [Act.put, List.setIfInBounds_toArray, List.set_cons_zero, List.set_cons_succ]
              refine wpAnyH_take (i := 9) (oi := ⟨some 45, _, _, _, _, _⟩) (v := ?_) rfl (by kernel_rfl) (by kernel_rfl) (by kernel_rfl) (fun _ _ _ h => h) (Or.inl ⟨by rfl, ?_⟩) hH0 ?_
              rotate_left
              · intro w hSw
                try dsimp only at hSw
                go_simp
                try with_reducible rfl
              try simp only [Act.put, List.setIfInBounds_toArray, List.set_cons_zero, List.set_cons_succ]
              refine wpAnyH_take (i := 10) (oi := ⟨some 46, _, _, _, _, _⟩) (v := ?_) rfl (by kernel_rfl) (by kernel_rfl) (by kernel_rfl) (fun _ _ _ h => h) (Or.inl ⟨by rfl, ?_⟩) hH0 ?_
              rotate_left
              · intro w hSw
                try dsimp only at hSw
                go_simp
                try with_reducible rfl
              try simp only [Act.put, List.setIfInBounds_toArray, List.set_cons_zero, List.set_cons_succ]
              refine wpAnyH_take (i := 11) (oi := ⟨some 47, _, _, _, _, _⟩) (v := ?_) rfl (by kernel_rfl) (by kernel_rfl) (by kernel_rfl) (fun _ _ _ h => h) (Or.inl ⟨by rfl, ?_⟩) hH0 ?_
              rotate_left
              · intro w hSw
                try dsimp only at hSw
                go_simp
                try with_reducible rfl
              try simp only [Act.put, List.setIfInBounds_toArray, List.set_cons_zero, List.set_cons_succ]
              refine wpAnyH_take (i := 12) (oi := ⟨some 48, _, _, _, _, _⟩) (v := ?_) rfl (by kernel_rfl) (by kernel_rfl) (by kernel_rfl) (fun _ _ _ h => h) (Or.inl ⟨by rfl, ?_⟩) hH0 ?_
              rotate_left
              · intro w hSw
                try dsimp only at hSw
                go_simp
                try with_reducible rfl
              try simp only [Act.put, List.setIfInBounds_toArray, List.set_cons_zero, List.set_cons_succ]
              refine wpAnyH_take (i := 13) (oi := ⟨some 49, _, _, _, _, _⟩) (v := ?_) rfl (by kernel_rfl) (by kernel_rfl) (by kernel_rfl) (fun _ _ _ h => h) (Or.inl ⟨by rfl, ?_⟩) hH0 ?_
              rotate_left
              · intro w hSw
                try dsimp only at hSw
                go_simp
                try with_reducible rfl
              try simp only [Act.put, List.setIfInBounds_toArray, List.set_cons_zero, List.set_cons_succ]
              refine wpAnyH_take (i := 14) (oi := ⟨some 50, _, _, _, _, _⟩) (v := ?_) rfl (by kernel_rfl) (by kernel_rfl) (by kernel_rfl) (fun _ _ _ h => h) (Or.inl ⟨by rfl, ?_⟩) hH0 ?_
              rotate_left
              · intro w hSw
                try dsimp only at hSw
                go_simp
                try with_reducible rfl
              try simp only [Act.put, List.setIfInBounds_toArray, List.set_cons_zero, List.set_cons_succ]
              refine wpAnyH_take (i := 15) (oi := ⟨some 51, _, _, _, _, _⟩) (v := ?_) rfl (by kernel_rfl) (by kernel_rfl) (by kernel_rfl) (fun _ _ _ h => h) (Or.inl ⟨by rfl, ?_⟩) hH0 ?_
              rotate_left
              · intro w hSw
                try dsimp only at hSw
                go_simp
                try with_reducible rfl
              try simp only [Act.put, List.setIfInBounds_toArray, List.set_cons_zero, List.set_cons_succ]
              refine wpAnyH_take (i := 17) (oi := ⟨some 53, _, _, _, _, _⟩) (v := ?_) rfl (by kernel_rfl) (by kernel_rfl) (by kernel_rfl) (fun _ _ _ h => h) (Or.inl ⟨by rfl, ?_⟩) hH0 ?_
              rotate_left
              · intro w hSw
                try dsimp only at hSw
                go_simp
                try with_reducible rfl
              try simp only [Act.put, List.setIfInBounds_toArray, List.set_cons_zero, List.set_cons_succ]
              refine wpAnyH_take (i := 18) (oi := ⟨some 54, _, _, _, _, _⟩) (v := ?_) rfl (by kernel_rfl) (by kernel_rfl) (by kernel_rfl) (fun _ _ _ h => h) (Or.inl ⟨by rfl, ?_⟩) hH0 ?_
              rotate_left
              · intro w hSw
                try dsimp only at hSw
                go_simp
                try with_reducible rfl
              try simp only [Act.put, List.setIfInBounds_toArray, List.set_cons_zero, List.set_cons_succ]
              refine wpAnyH_take (i := 19) (oi := ⟨some 55, _, _, _, _, _⟩) (v := ?_) rfl (by kernel_rfl) (by kernel_rfl) (by kernel_rfl) (fun _ _ _ h => h) (Or.inl ⟨by rfl, ?_⟩) hH0 ?_
              rotate_left
              · intro w hSw
                try dsimp only at hSw
                go_simp
                try with_reducible rfl
              try simp only [Act.put, List.setIfInBounds_toArray, List.set_cons_zero, List.set_cons_succ]
              refine wpAnyH_ready (rs := [16]) (by kernel_rfl) (by simp) ?_
              refine AllReadyH.cons (o := ⟨some 52, _, _, _, _, _⟩) rfl (fun K hK => ?_) AllReadyH.nil
              go_simp
              refine (HB.out _ M0.out.md.low).mono ?_
              rintro e W1 ⟨rfl, hb1⟩
              have M1 := Lib.hid (M0.out.below hb1); have D1 : Hid (Below W.heap.size W W1) := Lib.hid ⟨hb1.os, hb1.tape, hb1.output, hb1.size, hb1.block⟩; clear hb1
              go_wp2_with fail
              refine hK.out _ _ (HS.out _ M1.out) (fun hH1 => ?_)
              clear hK K hH0
              try simp only [List.setIfInBounds_toArray, List.set_cons_zero, List.set_cons_succ]
              refine wpAnyH_ready (rs := [20]) (by kernel_rfl) (by simp) ?_
              refine AllReadyH.cons (o := ⟨some 56, _, _, _, _, _⟩) rfl (fun K hK => ?_) AllReadyH.nil
              go_simp
              refine (HA.out _ M1.out.md.low).mono ?_
              rintro e W2 ⟨rfl, hb2⟩
              have M2 := Lib.hid (M1.out.below hb2); have D2 := Lib.hid (zthen D1.out hb2); clear hb2
              go_wp2_with fail
              refine hK.out _ _ (HS.out _ M2.out) (fun hH2 => ?_)
              clear hK K hH1
              try simp only [List.setIfInBounds_toArray, List.set_cons_zero, List.set_cons_succ]
              refine wpAnyH_take (i := 21) (oi := ⟨some 57, _, _, _, _, _⟩) (v := ?_) rfl (by kernel_rfl) (by kernel_rfl) (by kernel_rfl) (fun _ _ _ h => h) (Or.inl ⟨by rfl, ?_⟩) hH2 ?_
              rotate_left
              · intro w hSw
                try dsimp only at hSw
                go_simp
                try with_reducible rfl
              try simp only [Act.put, List.setIfInBounds_toArray, List.set_cons_zero, List.set_cons_succ]
              refine wpAnyH_take (i := 22) (oi := ⟨some 58, _, _, _, _, _⟩) (v := ?_) rfl (by kernel_rfl) (by kernel_rfl) (by kernel_rfl) (fun _ _ _ h => h) (Or.inl ⟨by rfl, ?_⟩) hH2 ?_
              rotate_left
              · intro w hSw
                try dsimp only at hSw
                go_simp
                try with_reducible rfl
              try simp only [Act.put, List.setIfInBounds_toArray, List.set_cons_zero, List.set_cons_succ]
              refine wpAnyH_done (by kernel_rfl) ?_ _
              have hb12 : Below W.heap.size W W2 := D2.out
              gi_wp2
              subst hB0
              exact (⟨keeps_below hb12 _, kept_below hb12 hcW, M2.out.congr (fun k _ => mvL_no (x := ⟨(i, j), hi, hj⟩) hc), Nat.lt_of_lt_of_le hcW hb12.size⟩ : KeepsFrom _ _ _ ∧ CellKept _ _ _ ∧ MO _ _ _ _ _ _ _ _ _ _ _ _ _ _ ∧ _)
          · have HS : Hid (∀ W', MO w m ga ca gb cb gf cf gm cm w5.heap.size (farB f n C B) (mvL m f n C B pre) W' → (fun W' => (W'.cell? ⟨w.heap.size + 1 + 1, 0, none⟩ = some (.slice (some ⟨gf, 0, none⟩) m cf) ∧ W'.cell? ⟨gf, i, none⟩ = some (.bool false) ∧ W'.cell? ⟨gf, j, none⟩ = some (.bool true)) ∧ (W'.cell? ⟨w.heap.size, 0, none⟩ = some (.int .i64 ((m : Int) - 1)) ∧ W'.cell? ⟨w.heap.size, 1, none⟩ = some (.slice (some ⟨ga, 0, none⟩) (m * m) ca)) ∧ W'.cell? ⟨w.heap.size + 1, 0, none⟩ = some (.int .i64 ((m : Int) - 1)) ∧ W'.cell? ⟨w.heap.size + 1, 1, none⟩ = some (.slice (some ⟨gb, 0, none⟩) (m * m) cb)) W') := Lib.hid fun W' h => by
              have q := h.s hi hj
              rw [qi, qj] at q
              exact q
            have hc : (!farB f n C B i && (!farB f n C B j && decide (C i j < B i j))) = false := by rw [qi, qj]; rfl
            gi_wp2
            refine wpIn_held (S := fun W' => (W'.cell? ⟨w.heap.size + 1 + 1, 0, none⟩ = some (.slice (some ⟨gf, 0, none⟩) m cf) ∧ W'.cell? ⟨gf, i, none⟩ = some (.bool false) ∧ W'.cell? ⟨gf, j, none⟩ = some (.bool true)) ∧ (W'.cell? ⟨w.heap.size, 0, none⟩ = some (.int .i64 ((m : Int) - 1)) ∧ W'.cell? ⟨w.heap.size, 1, none⟩ = some (.slice (some ⟨ga, 0, none⟩) (m * m) ca)) ∧ W'.cell? ⟨w.heap.size + 1, 0, none⟩ = some (.int .i64 ((m : Int) - 1)) ∧ W'.cell? ⟨w.heap.size + 1, 1, none⟩ = some (.slice (some ⟨gb, 0, none⟩) (m * m) cb)) (by kernel_rfl) (by kernel_rfl) (by rintro ⟨_, _, h⟩; exact h) (HS.out _ M0.out) (fun hH0 => ?_)
            simp only [List.size_toArray, List.length_cons, List.length_nil, Nat.reduceAdd, Array.replicate_succ, Array.replicate_zero, List.push_toArray, List.nil_append, List.cons_append]
            refine wpAnyH_take (i := 0) (oi := ⟨some 36, _, _, _, _, _⟩) (v := ?_) rfl (by kernel_rfl) (by kernel_rfl) (by kernel_rfl) (fun _ _ _ h => h) (Or.inl ⟨by rfl, ?_⟩) hH0 ?_
            rotate_left
            · intro w hSw
              try dsimp only at hSw
              go_simp
              try with_reducible rfl
            try simp only [Act.put, List.setIfInBounds_toArray, List.set_cons_zero, List.set_cons_succ]
            refine wpAnyH_take (i := 1) (oi := ⟨some 37, _, _, _, _, _⟩) (v := ?_) rfl (by kernel_rfl) (by kernel_rfl) (by kernel_rfl) (fun _ _ _ h => h) (Or.inl ⟨by rfl, ?_⟩) hH0 ?_
            rotate_left
            · intro w hSw
              try dsimp only at hSw
              go_simp
              try with_reducible rfl
            try simp only [Act.put, List.setIfInBounds_toArray, List.set_cons_zero, List.set_cons_succ]
            refine wpAnyH_take (i := 2) (oi := ⟨some 38, _, _, _, _, _⟩) (v := ?_) rfl (by kernel_rfl) (by kernel_rfl) (by kernel_rfl) (fun _ _ _ h => h) (Or.inl ⟨by rfl, ?_⟩) hH0 ?_
            rotate_left
            · intro w hSw
              try dsimp only at hSw
              go_simp
              try with_reducible rfl
            try simp only [Act.put, List.setIfInBounds_toArray, List.set_cons_zero, List.set_cons_succ]
            refine wpAnyH_take (i := 3) (oi := ⟨some 39, _, _, _, _, _⟩) (v := ?_) rfl (by kernel_rfl) (by kernel_rfl) (by kernel_rfl) (fun _ _ _ h => h) (Or.inl ⟨by rfl, ?_⟩) hH0 ?_
            rotate_left
            · intro w hSw
              try dsimp only at hSw
              go_simp
              try with_reducible rfl
            try simp only [Act.put, List.setIfInBounds_toArray, List.set_cons_zero, List.set_cons_succ]
            refine wpAnyH_take (i := 4) (oi := ⟨some 40, _, _, _, _, _⟩) (v := ?_) rfl (by kernel_rfl) (by kernel_rfl) (by kernel_rfl) (fun _ _ _ h => h) (Or.inl ⟨by rfl, ?_⟩) hH0 ?_
            rotate_left
            · intro w hSw
              try dsimp only at hSw
              go_simp
              try with_reducible rfl
            try simp only [Act.put, List.setIfInBounds_toArray, List.set_cons_zero, List.set_cons_succ]
            refine wpAnyH_take (i := 5) (oi := ⟨some 41, _, _, _, _, _⟩) (v := ?_) rfl (by kernel_rfl) (by kernel_rfl) (by kernel_rfl) (fun _ _ _ h => h) (Or.inl ⟨by rfl, ?_⟩) hH0 ?_
            rotate_left
            · intro w hSw
              try dsimp only at hSw
              go_simp
              try with_reducible rfl
            try simp only [Act.put, List.setIfInBounds_toArray, List.set_cons_zero, List.set_cons_succ]
            refine wpAnyH_take (i := 6) (oi := ⟨some 42, _, _, _, _, _⟩) (v := ?_) rfl (by kernel_rfl) (by kernel_rfl) (by kernel_rfl) (fun _ _ _ h => h) (Or.inl ⟨by rfl, ?_⟩) hH0 ?_
            rotate_left
            · intro w hSw
              try dsimp only at hSw
              go_simp
              try with_reducible rfl
            try simp only [Act.put, List.setIfInBounds_toArray, List.set_cons_zero, List.set_cons_succ]
            refine wpAnyH_take (i := 7) (oi := ⟨some 43, _, _, _, _, _⟩) (v := ?_) rfl (by kernel_rfl) (by kernel_rfl) (by kernel_rfl) (fun _ _ _ h => h) (Or.inl ⟨by rfl, ?_⟩) hH0 ?_
            rotate_left
            · intro w hSw
              try dsimp only at hSw
              go_simp
              try with_reducible rfl
            try simp only [Act.put, List.setIfInBounds_toArray, List.set_cons_zero, List.set_cons_succ]
            refine wpAnyH_take (i := 8) (oi := ⟨some 44, _, _, _, _, _⟩) (v := ?_) rfl (by kernel_rfl) (by kernel_rfl) (by kernel_rfl) (fun _ _ _ h => h) (Or.inl ⟨by rfl, ?_⟩) hH0 ?_
            rotate_left
            · intro w hSw
              try dsimp only at hSw
              go_simp
              try with_reducible rfl
            try simp only [Act.put, List.setIfInBounds_toArray, List.set_cons_zero, List.set_cons_succ]
            refine wpAnyH_take (i := 9) (oi := ⟨some 45, _, _, _, _, _⟩) (v := ?_) rfl (by kernel_rfl) (by kernel_rfl) (by kernel_rfl) (fun _ _ _ h => h) (Or.inl ⟨by rfl, ?_⟩) hH0 ?_
            rotate_left
            · intro w hSw
              try dsimp only at hSw
              go_simp
              try with_reducible rfl
            try simp only [Act.put, List.setIfInBounds_toArray, List.set_cons_zero, List.set_cons_succ]
            refine wpAnyH_take (i := 10) (oi := ⟨some 46, _, _, _, _, _⟩) (v := ?_) rfl (by kernel_rfl) (by kernel_rfl) (by kernel_rfl) (fun _ _ _ h => h) (Or.inl ⟨by rfl, ?_⟩) hH0 ?_
            rotate_left
            · intro w hSw
              try dsimp only at hSw
              go_simp
              try with_reducible rfl
            try simp only [Act.put, List.setIfInBounds_toArray, List.set_cons_zero, List.set_cons_succ]
            refine wpAnyH_take (i := 11) (oi := ⟨some 47, _, _, _, _, _⟩) (v := ?_) rfl (by kernel_rfl) (by kernel_rfl) (by kernel_rfl) (fun _ _ _ h => h) (Or.inl ⟨by rfl, ?_⟩) hH0 ?_
            rotate_left
            · intro w hSw
              try dsimp only at hSw
              go_simp
              try with_reducible rfl
            try simp only [Act.put, List.setIfInBounds_toArray, List.set_cons_zero, List.set_cons_succ]
            refine wpAnyH_take (i := 12) (oi := ⟨some 48, _, _, _, _, _⟩) (v := ?_) rfl (by kernel_rfl) (by kernel_rfl) (by kernel_rfl) (fun _ _ _ h => h) (Or.inl ⟨by rfl, ?_⟩) hH0 ?_
            rotate_left
            · intro w hSw
              try dsimp only at hSw
              go_simp
              try with_reducible rfl
            try simp only [Act.put, List.setIfInBounds_toArray, List.set_cons_zero, List.set_cons_succ]
            refine wpAnyH_take (i := 13) (oi := ⟨some 49, _, _, _, _, _⟩) (v := undef) rfl (by kernel_rfl) (by kernel_rfl) (by kernel_rfl) (fun _ _ _ h => h) (Or.inr ⟨by rfl, rfl⟩) hH0 ?_
            try simp only [Act.put, List.setIfInBounds_toArray, List.set_cons_zero, List.set_cons_succ]
            refine wpAnyH_take (i := 14) (oi := ⟨some 50, _, _, _, _, _⟩) (v := undef) rfl (by kernel_rfl) (by kernel_rfl) (by kernel_rfl) (fun _ _ _ h => h) (Or.inr ⟨by rfl, rfl⟩) hH0 ?_
            try simp only [Act.put, List.setIfInBounds_toArray, List.set_cons_zero, List.set_cons_succ]
            refine wpAnyH_take (i := 15) (oi := ⟨some 51, _, _, _, _, _⟩) (v := undef) rfl (by kernel_rfl) (by kernel_rfl) (by kernel_rfl) (fun _ _ _ h => h) (Or.inr ⟨by rfl, rfl⟩) hH0 ?_
            try simp only [Act.put, List.setIfInBounds_toArray, List.set_cons_zero, List.set_cons_succ]
            refine wpAnyH_take (i := 16) (oi := ⟨some 52, _, _, _, _, _⟩) (v := undef) rfl (by kernel_rfl) (by kernel_rfl) (by kernel_rfl) (fun _ _ _ h => h) (Or.inr ⟨by rfl, rfl⟩) hH0 ?_
            try simp only [Act.put, List.setIfInBounds_toArray, List.set_cons_zero, List.set_cons_succ]
            refine wpAnyH_take (i := 17) (oi := ⟨some 53, _, _, _, _, _⟩) (v := undef) rfl (by kernel_rfl) (by kernel_rfl) (by kernel_rfl) (fun _ _ _ h => h) (Or.inr ⟨by rfl, rfl⟩) hH0 ?_
            try simp only [Act.put, List.setIfInBounds_toArray, List.set_cons_zero, List.set_cons_succ]
            refine wpAnyH_take (i := 18) (oi := ⟨some 54, _, _, _, _, _⟩) (v := undef) rfl (by kernel_rfl) (by kernel_rfl) (by kernel_rfl) (fun _ _ _ h => h) (Or.inr ⟨by rfl, rfl⟩) hH0 ?_
            try simp only [Act.put, List.setIfInBounds_toArray, List.set_cons_zero, List.set_cons_succ]
            refine wpAnyH_take (i := 19) (oi := ⟨some 55, _, _, _, _, _⟩) (v := undef) rfl (by kernel_rfl) (by kernel_rfl) (by kernel_rfl) (fun _ _ _ h => h) (Or.inr ⟨by rfl, rfl⟩) hH0 ?_
            try simp only [Act.put, List.setIfInBounds_toArray, List.set_cons_zero, List.set_cons_succ]
            refine wpAnyH_take (i := 20) (oi := ⟨some 56, _, _, _, _, _⟩) (v := undef) rfl (by kernel_rfl) (by kernel_rfl) (by kernel_rfl) (fun _ _ _ h => h) (Or.inr ⟨by rfl, rfl⟩) hH0 ?_
            try simp only [Act.put, List.setIfInBounds_toArray, List.set_cons_zero, List.set_cons_succ]
            refine wpAnyH_take (i := 21) (oi := ⟨some 57, _, _, _, _, _⟩) (v := undef) rfl (by kernel_rfl) (by kernel_rfl) (by kernel_rfl) (fun _ _ _ h => h) (Or.inr ⟨by rfl, rfl⟩) hH0 ?_
            try simp only [Act.put, List.setIfInBounds_toArray, List.set_cons_zero, List.set_cons_succ]
            refine wpAnyH_take (i := 22) (oi := ⟨some 58, _, _, _, _, _⟩) (v := ?_) rfl (by kernel_rfl) (by kernel_rfl) (by kernel_rfl) (fun _ _ _ h => h) (Or.inl ⟨by rfl, ?_⟩) hH0 ?_
            rotate_left
            · intro w hSw
              try dsimp only at hSw
              go_simp
              try with_reducible rfl
            try simp only [Act.put, List.setIfInBounds_toArray, List.set_cons_zero, List.set_cons_succ]
            refine wpAnyH_done (by kernel_rfl) ?_ _
            have hb12 : Below W.heap.size W W.drew := (Below.refl _ _).drew
            gi_wp2
            subst hB0
            exact (⟨keeps_below hb12 _, kept_below hb12 hcW, M0.out.congr (fun k _ => mvL_no (x := ⟨(i, j), hi, hj⟩) hc), Nat.lt_of_lt_of_le hcW hb12.size⟩ : KeepsFrom _ _ _ ∧ CellKept _ _ _ ∧ MO _ _ _ _ _ _ _ _ _ _ _ _ _ _ ∧ _)
        · obtain ⟨fj, hfj⟩ : ∃ fj, fj = farB f n C B j := ⟨_, rfl⟩
          have HS : Hid (∀ W', MO w m ga ca gb cb gf cf gm cm w5.heap.size (farB f n C B) (mvL m f n C B pre) W' → (fun W' => (W'.cell? ⟨w.heap.size + 1 + 1, 0, none⟩ = some (.slice (some ⟨gf, 0, none⟩) m cf) ∧ W'.cell? ⟨gf, i, none⟩ = some (.bool true) ∧ W'.cell? ⟨gf, j, none⟩ = some (.bool fj)) ∧ (W'.cell? ⟨w.heap.size, 0, none⟩ = some (.int .i64 ((m : Int) - 1)) ∧ W'.cell? ⟨w.heap.size, 1, none⟩ = some (.slice (some ⟨ga, 0, none⟩) (m * m) ca)) ∧ W'.cell? ⟨w.heap.size + 1, 0, none⟩ = some (.int .i64 ((m : Int) - 1)) ∧ W'.cell? ⟨w.heap.size + 1, 1, none⟩ = some (.slice (some ⟨gb, 0, none⟩) (m * m) cb)) W') := Lib.hid fun W' h => by
            have q := h.s hi hj
            rw [qi, ← hfj] at q
            exact q
          have hc : (!farB f n C B i && (!farB f n C B j && decide (C i j < B i j))) = false := by rw [qi]; rfl
          gi_wp2
          refine wpIn_held (S := fun W' => (W'.cell? ⟨w.heap.size + 1 + 1, 0, none⟩ = some (.slice (some ⟨gf, 0, none⟩) m cf) ∧ W'.cell? ⟨gf, i, none⟩ = some (.bool true) ∧ W'.cell? ⟨gf, j, none⟩ = some (.bool fj)) ∧ (W'.cell? ⟨w.heap.size, 0, none⟩ = some (.int .i64 ((m : Int) - 1)) ∧ W'.cell? ⟨w.heap.size, 1, none⟩ = some (.slice (some ⟨ga, 0, none⟩) (m * m) ca)) ∧ W'.cell? ⟨w.heap.size + 1, 0, none⟩ = some (.int .i64 ((m : Int) - 1)) ∧ W'.cell? ⟨w.heap.size + 1, 1, none⟩ = some (.slice (some ⟨gb, 0, none⟩) (m * m) cb)) (by kernel_rfl) (by kernel_rfl) (by rintro ⟨_, _, h⟩; exact h) (HS.out _ M0.out) (fun hH0 => ?_)
          simp only [List.size_toArray, List.length_cons, List.length_nil, Nat.reduceAdd, Array.replicate_succ, Array.replicate_zero, List.push_toArray, List.nil_append, List.cons_append]
          refine wpAnyH_take (i := 0) (oi := ⟨some 36, _, _, _, _, _⟩) (v := ?_) rfl (by kernel_rfl) (by kernel_rfl) (by kernel_rfl) (fun _ _ _ h => h) (Or.inl ⟨by rfl, ?_⟩) hH0 ?_
          rotate_left
          · intro w hSw
            try dsimp only at hSw
            go_simp
            try with_reducible rfl
          try simp only [Act.put, List.setIfInBounds_toArray, List.set_cons_zero, List.set_cons_succ]
          refine wpAnyH_take (i := 1) (oi := ⟨some 37, _, _, _, _, _⟩) (v := ?_) rfl (by kernel_rfl) (by kernel_rfl) (by kernel_rfl) (fun _ _ _ h => h) (Or.inl ⟨by rfl, ?_⟩) hH0 ?_
          rotate_left
          · intro w hSw
            try dsimp only at hSw
            go_simp
            try with_reducible rfl
          try simp only [Act.put, List.setIfInBounds_toArray, List.set_cons_zero, List.set_cons_succ]
          refine wpAnyH_take (i := 2) (oi := ⟨some 38, _, _, _, _, _⟩) (v := ?_) rfl (by kernel_rfl) (by kernel_rfl) (by kernel_rfl) (fun _ _ _ h => h) (Or.inl ⟨by rfl, ?_⟩) hH0 ?_
          rotate_left
          · intro w hSw
            try dsimp only at hSw
            go_simp
            try with_reducible rfl
          try simp only [Act.put, List.setIfInBounds_toArray, List.set_cons_zero, List.set_cons_succ]
          refine wpAnyH_take (i := 3) (oi := ⟨some 39, _, _, _, _, _⟩) (v := ?_) rfl (by kernel_rfl) (by kernel_rfl) (by kernel_rfl) (fun _ _ _ h => h) (Or.inl ⟨by rfl, ?_⟩) hH0 ?_
          rotate_left
          · intro w hSw
            try dsimp only at hSw
            go_simp
            try with_reducible rfl
          try simp only [Act.put, List.setIfInBounds_toArray, List.set_cons_zero, List.set_cons_succ]
          refine wpAnyH_take (i := 4) (oi := ⟨some 40, _, _, _, _, _⟩) (v := ?_) rfl (by kernel_rfl) (by kernel_rfl) (by kernel_rfl) (fun _ _ _ h => h) (Or.inl ⟨by rfl, ?_⟩) hH0 ?_
          rotate_left
          · intro w hSw
            try dsimp only at hSw
            go_simp
            try with_reducible rfl
          try simp only [Act.put, List.setIfInBounds_toArray, List.set_cons_zero, List.set_cons_succ]
          refine wpAnyH_take (i := 5) (oi := ⟨some 41, _, _, _, _, _⟩) (v := ?_) rfl (by kernel_rfl) (by kernel_rfl) (by kernel_rfl) (fun _ _ _ h => h) (Or.inl ⟨by rfl, ?_⟩) hH0 ?_
          rotate_left
          · intro w hSw
            try dsimp only at hSw
            go_simp
            try with_reducible rfl
          try simp only [Act.put, List.setIfInBounds_toArray, List.set_cons_zero, List.set_cons_succ]
          refine wpAnyH_take (i := 6) (oi := ⟨some 42, _, _, _, _, _⟩) (v := undef) rfl (by kernel_rfl) (by kernel_rfl) (by kernel_rfl) (fun _ _ _ h => h) (Or.inr ⟨by rfl, rfl⟩) hH0 ?_
          try simp only [Act.put, List.setIfInBounds_toArray, List.set_cons_zero, List.set_cons_succ]
          refine wpAnyH_take (i := 7) (oi := ⟨some 43, _, _, _, _, _⟩) (v := undef) rfl (by kernel_rfl) (by kernel_rfl) (by kernel_rfl) (fun _ _ _ h => h) (Or.inr ⟨by rfl, rfl⟩) hH0 ?_
          try simp only [Act.put, List.setIfInBounds_toArray, List.set_cons_zero, List.set_cons_succ]
          refine wpAnyH_take (i := 8) (oi := ⟨some 44, _, _, _, _, _⟩) (v := undef) rfl (by kernel_rfl) (by kernel_rfl) (by kernel_rfl) (fun _ _ _ h => h) (Or.inr ⟨by rfl, rfl⟩) hH0 ?_
          try simp only [Act.put, List.setIfInBounds_toArray, List.set_cons_zero, List.set_cons_succ]
          refine wpAnyH_take (i := 9) (oi := ⟨some 45, _, _, _, _, _⟩) (v := undef) rfl (by kernel_rfl) (by kernel_rfl) (by kernel_rfl) (fun _ _ _ h => h) (Or.inr ⟨by rfl, rfl⟩) hH0 ?_
          try simp only [Act.put, List.setIfInBounds_toArray, List.set_cons_zero, List.set_cons_succ]
          refine wpAnyH_take (i := 10) (oi := ⟨some 46, _, _, _, _, _⟩) (v := undef) rfl (by kernel_rfl) (by kernel_rfl) (by kernel_rfl) (fun _ _ _ h => h) (Or.inr ⟨by rfl, rfl⟩) hH0 ?_
          try simp only [Act.put, List.setIfInBounds_toArray, List.set_cons_zero, List.set_cons_succ]
          refine wpAnyH_take (i := 11) (oi := ⟨some 47, _, _, _, _, _⟩) (v := ?_) rfl (by kernel_rfl) (by kernel_rfl) (by kernel_rfl) (fun _ _ _ h => h) (Or.inl ⟨by rfl, ?_⟩) hH0 ?_
          rotate_left
          · intro w hSw
            try dsimp only at hSw
            go_simp
            try with_reducible rfl
          try simp only [Act.put, List.setIfInBounds_toArray, List.set_cons_zero, List.set_cons_succ]
          refine wpAnyH_take (i := 12) (oi := ⟨some 48, _, _, _, _, _⟩) (v := ?_) rfl (by kernel_rfl) (by kernel_rfl) (by kernel_rfl) (fun _ _ _ h => h) (Or.inl ⟨by rfl, ?_⟩) hH0 ?_
          rotate_left
          · intro w hSw
            try dsimp only at hSw
            go_simp
            try with_reducible rfl
          try simp only [Act.put, List.setIfInBounds_toArray, List.set_cons_zero, List.set_cons_succ]
          refine wpAnyH_take (i := 13) (oi := ⟨some 49, _, _, _, _, _⟩) (v := undef) rfl (by kernel_rfl) (by kernel_rfl) (by kernel_rfl) (fun _ _ _ h => h) (Or.inr ⟨by rfl, rfl⟩) hH0 ?_
          try simp only [Act.put, List.setIfInBounds_toArray, List.set_cons_zero, List.set_cons_succ]
          refine wpAnyH_take (i := 14) (oi := ⟨some 50, _, _, _, _, _⟩) (v := undef) rfl (by kernel_rfl) (by kernel_rfl) (by kernel_rfl) (fun _ _ _ h => h) (Or.inr ⟨by rfl, rfl⟩) hH0 ?_
          try simp only [Act.put, List.setIfInBounds_toArray, List.set_cons_zero, List.set_cons_succ]
          refine wpAnyH_take (i := 15) (oi := ⟨some 51, _, _, _, _, _⟩) (v := undef) rfl (by kernel_rfl) (by kernel_rfl) (by kernel_rfl) (fun _ _ _ h => h) (Or.inr ⟨by rfl, rfl⟩) hH0 ?_
          try simp only [Act.put, List.setIfInBounds_toArray, List.set_cons_zero, List.set_cons_succ]
          refine wpAnyH_take (i := 16) (oi := ⟨some 52, _, _, _, _, _⟩) (v := undef) rfl (by kernel_rfl) (by kernel_rfl) (by kernel_rfl) (fun _ _ _ h => h) (Or.inr ⟨by rfl, rfl⟩) hH0 ?_
          try simp only [Act.put, List.setIfInBounds_toArray, List.set_cons_zero, List.set_cons_succ]
          refine wpAnyH_take (i := 17) (oi := ⟨some 53, _, _, _, _, _⟩) (v := undef) rfl (by kernel_rfl) (by kernel_rfl) (by kernel_rfl) (fun _ _ _ h => h) (Or.inr ⟨by rfl, rfl⟩) hH0 ?_
          try simp only [Act.put, List.setIfInBounds_toArray, List.set_cons_zero, List.set_cons_succ]
          refine wpAnyH_take (i := 18) (oi := ⟨some 54, _, _, _, _, _⟩) (v := undef) rfl (by kernel_rfl) (by kernel_rfl) (by kernel_rfl) (fun _ _ _ h => h) (Or.inr ⟨by rfl, rfl⟩) hH0 ?_
          try simp only [Act.put, List.setIfInBounds_toArray, List.set_cons_zero, List.set_cons_succ]
          refine wpAnyH_take (i := 19) (oi := ⟨some 55, _, _, _, _, _⟩) (v := undef) rfl (by kernel_rfl) (by kernel_rfl) (by kernel_rfl) (fun _ _ _ h => h) (Or.inr ⟨by rfl, rfl⟩) hH0 ?_
          try simp only [Act.put, List.setIfInBounds_toArray, List.set_cons_zero, List.set_cons_succ]
          refine wpAnyH_take (i := 20) (oi := ⟨some 56, _, _, _, _, _⟩) (v := undef) rfl (by kernel_rfl) (by kernel_rfl) (by kernel_rfl) (fun _ _ _ h => h) (Or.inr ⟨by rfl, rfl⟩) hH0 ?_
          try simp only [Act.put, List.setIfInBounds_toArray, List.set_cons_zero, List.set_cons_succ]
          refine wpAnyH_take (i := 21) (oi := ⟨some 57, _, _, _, _, _⟩) (v := undef) rfl (by kernel_rfl) (by kernel_rfl) (by kernel_rfl) (fun _ _ _ h => h) (Or.inr ⟨by rfl, rfl⟩) hH0 ?_
          try simp only [Act.put, List.setIfInBounds_toArray, List.set_cons_zero, List.set_cons_succ]
          refine wpAnyH_take (i := 22) (oi := ⟨some 58, _, _, _, _, _⟩) (v := ?_) rfl (by kernel_rfl) (by kernel_rfl) (by kernel_rfl) (fun _ _ _ h => h) (Or.inl ⟨by rfl, ?_⟩) hH0 ?_
          rotate_left
          · intro w hSw
            try dsimp only at hSw
            go_simp
            try with_reducible rfl
          try simp only [Act.put, List.setIfInBounds_toArray, List.set_cons_zero, List.set_cons_succ]
          refine wpAnyH_done (by kernel_rfl) ?_ _
          have hb12 : Below W.heap.size W W.drew := (Below.refl _ _).drew
          gi_wp2
          subst hB0
          exact (⟨keeps_below hb12 _, kept_below hb12 hcW, M0.out.congr (fun k _ => mvL_no (x := ⟨(i, j), hi, hj⟩) hc), Nat.lt_of_lt_of_le hcW hb12.size⟩ : KeepsFrom _ _ _ ∧ CellKept _ _ _ ∧ MO _ _ _ _ _ _ _ _ _ _ _ _ _ _ ∧ _)
      case done =>
        rintro E ys W hD rfl ⟨hS, hcW⟩ hK
        have r0 := hS.mb.cell
        have r1 := GM.out
        go_wp2_with fail
        exact mov_leaves (B0 := w5.heap.size + 1 + 1) (by omega) (by omega) ((marks_nil _ _).cons (by simp at hD; omega) hK (fun D' h => by cases h)) hS.mrow (by omega) hS.md.low rfl
      case stop =>
        rintro E c pre W _ _ h _
        exact h.elim
end Go.Proofs.YtlkbapcienjdcaaDoor

/- The contract of the program's Widen, of any two zones of one N. -/
namespace Go.Proofs.YtlkbapcienjdcaaDoor
open Go.RowKit

/-- What is widened of two right zones. -/
def wdO (m : Nat) (f : Nat → Int) (n : Nat) (Ra Rb : Option Mat) : Option Mat :=
  if leqO m m Rb Ra = true then Ra else match Ra, Rb with
    | some C, some B => setR m (prM (mvS m f n C B (m * m)) f n C B)
    | none, R => R
    | some C, none => some C
theorem widen_any {w : World} {Na Nb : Int} {Aa Ab S : Option Addr} {la lb ca cb m n cap : Nat} {f : Nat → Int} {Ra Rb : Option Mat} (h0 : 0 < m) (h7 : m ≤ 7) (hn : n ≤ 9223372036854775807) (hS : Sp.Ints w S n f) (hA : ∀ C, Ra = some C → Closed m C) (hB : ∀ B, Rb = some B → Closed m B)
    (K : ∀ W, Below w.heap.size w W → Calls Tryd.prog 35 #[zoneV Na Aa la ca, zoneV Nb Ab lb cb] W (RetTwo W m m Ra Rb)) :
    Calls Tryd.prog 49 #[zoneV Na Aa la ca, zoneV Nb Ab lb cb, .slice S n cap] w (RetC w m (wdO m f n Ra Rb)) := by
  by_cases hle : leqO m m Rb Ra = true
  · rw [show wdO m f n Ra Rb = Ra from if_pos hle]
    exact widen_le h0 h7 hle K
  · have hle' : leqO m m Rb Ra = false := by cases q : leqO m m Rb Ra; rfl; exact absurd q hle
    match Ra, Rb, hA, hB, hle, hle', K with
    | none, none, _, _, hle, _, _ => exact absurd (by simp [leqO]) hle
    | none, some B, _, _, hle, _, K =>
      rw [show wdO m f n none (some B) = some B from if_neg hle]
      exact widen_na h0 h7 K
    | some C, none, _, _, hle, _, _ => exact absurd (by simp [leqO]) hle
    | some C, some B, hA, hB, hle, hle', K =>
      rw [show wdO m f n (some C) (some B) = setR m (prM (mvS m f n C B (m * m)) f n C B) from if_neg hle]
      have hC := hA C rfl
      have hBB := hB B rfl
      exact widen_pts h0 h7 hn hS hC hBB hle' K (fun W base g1 c1 g2 c2 vs o1 o2 o3 => (movers_any h0 h7 hC o1 o2 o3).mono fun _ _ hr => retMv_congr hr fun k _ => by
        have a := mvL_all (f := f) (n := n) (C := C) (B := B) (k := k) h0
        have b := mvS_all (f := f) (n := n) (C := C) (B := B) h0 k
        rw [Bool.eq_iff_iff]
        exact a.trans b.symm)
theorem wd_closed {m n : Nat} {f : Nat → Int} {Ra Rb : Option Mat} (hA : ∀ C, Ra = some C → Closed m C) (hB : ∀ B, Rb = some B → Closed m B) : ∀ D, wdO m f n Ra Rb = some D → Closed m D := by
  intro D hD
  unfold wdO at hD
  split at hD
  · exact hA D hD
  · match Ra, Rb, hA, hB, hD with
    | none, R, _, hB, hD => exact hB D hD
    | some C, none, hA, _, hD => exact hA D hD
    | some C, some B, hA, hB, hD =>
      obtain ⟨ha, rfl⟩ := setR_some hD
      exact lev_closed ha
end Go.Proofs.YtlkbapcienjdcaaDoor
