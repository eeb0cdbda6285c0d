/- The contract of reckon, whatever its two functions tell: each node is reckoned by what its children came to. -/
import Derived.Test.YtcolinjgfcjimaaCBase
import Derived.Shelf.Abstract
namespace Go.Proofs.Ytcolinjgfcjimaa
open Go.RowKit
attribute [local go_sem ↓] Go.wp_at_zero Go.wp_at_succ

/-- What stays while a diagram is reckoned: the arena, the boxes' numbers, the two functions and what they tell. -/
structure Cx where
  w0 : World
  own : Nat → Prop
  p : Nat
  lim : Nat
  L : List Nd
  ba : Nat
  be : Nat
  bk : Nat
  bb : Nat
  bo : Nat
  bm : Nat
  ge : Nat
  kb : Nat
  le : Array Value
  lb : Array Value
  eF : Int → Int
  bF : Int → Int → Int → Int
def Cx.F (C : Cx) (r : Int) : Int := fold C.L (fun t => C.eF (valueP t)) C.bF r
/-- How many nodes are reckoned below a ref, at most. -/
def costP (L : List Nd) (r : Int) : Nat := fold L (fun _ => 0) (fun _ a b => a + b + 1) r
structure Rk (C : Cx) (W : World) (n : Nat) (g : Int → Option Int) : Prop where
  arena : Arena W C.own C.p C.lim C.L
  farM : ¬ C.own C.bm
  a : Blk W C.ba 24 #[.pointer (some ⟨C.p, 0, none⟩)]
  e : Blk W C.be 54 #[.func (.func C.ge) #[] C.le]
  k : Blk W C.bk 87 #[.map (some C.bm)]
  b : Blk W C.bb 69 #[.func (.func C.kb) #[] C.lb]
  o : Blk W C.bo 54 #[.func (.func 55) #[] #[.pointer (some ⟨C.ba, 0, none⟩), .pointer (some ⟨C.be, 0, none⟩), .pointer (some ⟨C.bk, 0, none⟩), .pointer (some ⟨C.bb, 0, none⟩), .pointer (some ⟨C.bo, 0, none⟩)]]
  map : IntM W C.bm n g
  right : ∀ j x, g j = some x → x = C.F j
  low : Below C.w0.heap.size C.w0 W
  new : C.w0.heap.size ≤ C.bm
theorem ne_map {w : World} {b n g0 : Nat} {g : Int → Option Int} {t : TypeId} {cs : Array Value} (h : IntM w b n g) (hb : Blk w g0 t cs) : ¬ g0 = b := by
  rintro rfl
  obtain ⟨D, ⟨es, clock, hh, -⟩, -⟩ := h
  unfold Blk at hb
  rw [hh] at hb
  cases hb
section
variable {C : Cx} {W W1 : World} {n : Nat} {g : Int → Option Int}
theorem Rk.only {n1 : Nat} {g1 : Int → Option Int} (h : Rk C W n g) (ho : Only (fun i => i = C.bm) W W1) (hm : IntM W1 C.bm n1 g1) (hr : ∀ j x, g1 j = some x → x = C.F j) : Rk C W1 n1 g1 :=
  ⟨h.arena.only ho fun _ hi e => h.farM (e ▸ hi), h.farM, ho.blk h.a (ne_map h.map h.a), ho.blk h.e (ne_map h.map h.e), ho.blk h.k (ne_map h.map h.k), ho.blk h.b (ne_map h.map h.b), ho.blk h.o (ne_map h.map h.o), hm, hr,
    h.low.trans (ho.below h.low.size fun _ hi => hi ▸ h.new), h.new⟩
theorem Rk.below (h : Rk C W n g) (hb : Below W.heap.size W W1) : Rk C W1 n g := h.only (Only.of_below hb _) (h.map.below hb h.map.lt) h.right
end
theorem keep_one1 {w w1 : World} {b : Nat} {x : Option Value} (hb : Below w.heap.size w w1) (h : b < w.heap.size ∧ w.cell? ⟨b, 0, none⟩ = x) : b < w1.heap.size ∧ w1.cell? ⟨b, 0, none⟩ = x := ⟨Nat.lt_of_lt_of_le h.1 hb.size, (hb.cell (p := ⟨b, 0, none⟩) h.1).trans h.2⟩
def RetR (C : Cx) (n0 c : Nat) (x : Int) (w : World) (e : Ending) (w' : World) : Prop := ∃ n1 g1, e = .returned (.int .i64 x) ∧ Rk C w' n1 g1 ∧ n1 ≤ n0 + c ∧ Only (fun i => i = C.bm) w w'
def RetX (x : Int) (w : World) (e : Ending) (w' : World) : Prop := e = .returned (.int .i64 x) ∧ Below w.heap.size w w'
/-- The two functions. -/
structure Fns (C : Cx) : Prop where
  right : RightL C.L
  ee : ∀ args w, (callFunc C.ge args).run Try.prog w = .ok (.enter C.ge args) w
  eb : ∀ args w, (callFunc C.kb args).run Try.prog w = .ok (.enter C.kb args) w
  he : ∀ (k : Int) W, Below C.w0.heap.size C.w0 W → Calls Try.prog C.ge (#[.int .i64 k] ++ C.le) W (RetX (C.eF k) W)
  hb : ∀ (v r s : Int) W, 0 ≤ v → v < 12 → Below C.w0.heap.size C.w0 W → Calls Try.prog C.kb (#[.int .i64 v, .int .i64 (C.F r), .int .i64 (C.F s)] ++ C.lb) W (RetX (C.bF v (C.F r) (C.F s)) W)
  num : ∀ r, I64 (C.F r)
@[reducible] def Reckons (C : Cx) (r : Int) : Prop := ∀ W n g, Rk C W n g → n + costP C.L r < maxLen → Calls Try.prog 55 #[.int .i64 r, .pointer (some ⟨C.ba, 0, none⟩), .pointer (some ⟨C.be, 0, none⟩), .pointer (some ⟨C.bk, 0, none⟩), .pointer (some ⟨C.bb, 0, none⟩), .pointer (some ⟨C.bo, 0, none⟩)] W (RetR C n (costP C.L r) (C.F r) W)
theorem keep_rk {C : Cx} {W : World} {n nb : Nat} {g : Int → Option Int} {x1 x2 x3 : Value} (h : Rk C W n g) (hb : Blk W nb 78 #[x1, x2, x3]) :
    (C.bb < W.heap.size ∧ C.bo < W.heap.size ∧ nb < W.heap.size) ∧ W.cell? ⟨C.bb, 0, none⟩ = some (.func (.func C.kb) #[] C.lb) ∧ W.cell? ⟨C.bo, 0, none⟩ = some (.func (.func 55) #[] #[.pointer (some ⟨C.ba, 0, none⟩), .pointer (some ⟨C.be, 0, none⟩), .pointer (some ⟨C.bk, 0, none⟩), .pointer (some ⟨C.bb, 0, none⟩), .pointer (some ⟨C.bo, 0, none⟩)]) ∧ W.cell? ⟨nb, 0, none⟩ = some x1 ∧ W.cell? ⟨nb, 1, none⟩ = some x2 ∧ W.cell? ⟨nb, 2, none⟩ = some x3 :=
  ⟨⟨h.b.lt, h.o.lt, hb.lt⟩, h.b.cell 0, h.o.cell 0, hb.cell 0, hb.cell 1, hb.cell 2⟩
section
variable {C : Cx} {W : World} {n : Nat} {g : Int → Option Int}
set_option maxRecDepth 100000 in
set_option maxHeartbeats 1600000 in
theorem reckon_end (HF : Fns C) (h : Rk C W n g) {r : Int} (hr : ¬ (0 ≤ r ∧ r < (C.L.length : Int))) : Calls Try.prog 55 #[.int .i64 r, .pointer (some ⟨C.ba, 0, none⟩), .pointer (some ⟨C.be, 0, none⟩), .pointer (some ⟨C.bk, 0, none⟩), .pointer (some ⟨C.bb, 0, none⟩), .pointer (some ⟨C.bo, 0, none⟩)] W (RetR C n 0 (C.F r) W) := by
  have hF : C.F r = C.eF (valueP r) := fold_out hr
  rw [hF]
  have HG := Lib.hid (arena_getN h.arena hr)
  have HR := Lib.hid h
  have ee := HF.ee
  have HE := Lib.hid HF.he
  have c1 : W.cell? ⟨C.ba, 0, none⟩ = some (.pointer (some ⟨C.p, 0, none⟩)) := h.a.cell 0
  clear h hr hF HF
  go_enter Try.func55, Try.ntmps55
  go_wp2_with (first
    | (go_at_call 56; ((with_reducible refine HG.out.mono ?_); rintro e w1 ⟨rfl, hb1⟩); have H1 := Lib.hid hb1; clear hb1))
  have hb0 : Below W.heap.size W (w1.alloc (.cells #[.int .i64 0, .int .i64 0, .int .i64 0] 78)).drew := (H1.out.alloc H1.out.size _).drew
  have R0 := Lib.hid (HR.out.below hb0)
  have K0 : Hid (C.be < (w1.alloc (.cells #[.int .i64 0, .int .i64 0, .int .i64 0] 78)).drew.heap.size ∧ (w1.alloc (.cells #[.int .i64 0, .int .i64 0, .int .i64 0] 78)).drew.cell? ⟨C.be, 0, none⟩ = some (.func (.func C.ge) #[] C.le)) := Lib.hid ⟨R0.out.e.lt, R0.out.e.cell 0⟩
  have HB0 := Lib.hid hb0
  clear hb0 c1
  go_region_held3 (fun w => (C.be < w.heap.size ∧ w.cell? ⟨C.be, 0, none⟩ = some (.func (.func C.ge) #[] C.le)))
    (first | (with_reducible exact K0.out) | (with_reducible exact keep_one1 hb3 K0.out))
    (first
      | (go_at_call 25; ((with_reducible refine (value_any _ _).mono ?_); rintro e w2 ⟨rfl, rfl⟩))
      | (go_at_fn C.ge; ((with_reducible refine (HE.out _ _ R0.out.low).mono ?_); rintro e w3 ⟨rfl, hb3⟩)))
  go_wp2_with fail
  go_ret
  exact ⟨n, g, rfl, R0.out.below hb3, Nat.le_refl _, Only.of_below (HB0.out.trans (hb3.mono HB0.out.size)) _⟩
set_option maxRecDepth 100000 in
set_option maxHeartbeats 1600000 in
theorem reckon_known (h : Rk C W n g) {k : Nat} {x : Nd} {y : Int} (hx : C.L[k]? = some x) (hk : I64 (k : Int)) (hg : g (k : Int) = some y) {c : Nat} : Calls Try.prog 55 #[.int .i64 (k : Int), .pointer (some ⟨C.ba, 0, none⟩), .pointer (some ⟨C.be, 0, none⟩), .pointer (some ⟨C.bk, 0, none⟩), .pointer (some ⟨C.bb, 0, none⟩), .pointer (some ⟨C.bo, 0, none⟩)] W (RetR C n c (C.F (k : Int)) W) := by
  obtain ⟨x1, x2, x3⟩ := x
  rw [← h.right _ _ hg]
  have HG := Lib.hid (arena_get h.arena hx)
  have HR := Lib.hid h
  have HK := Lib.hid hk
  have HGk := Lib.hid hg
  have c1 : W.cell? ⟨C.ba, 0, none⟩ = some (.pointer (some ⟨C.p, 0, none⟩)) := h.a.cell 0
  clear h hx hk hg
  go_enter Try.func55, Try.ntmps55
  go_upto_region 4 with (first
    | (go_at_call 56; ((with_reducible refine HG.out.mono ?_); rintro e w1 ⟨rfl, hb1⟩); have H1 := Lib.hid hb1; clear hb1))
  have hb0 : Below W.heap.size W (w1.alloc (.cells #[.int .i64 x1, .int .i64 x2, .int .i64 x3] 78)) := H1.out.alloc H1.out.size _
  have R0 := Lib.hid (HR.out.below hb0)
  have HB0 := Lib.hid hb0
  have c3 : (w1.alloc (.cells #[.int .i64 x1, .int .i64 x2, .int .i64 x3] 78)).cell? ⟨C.bk, 0, none⟩ = some (.map (some C.bm)) := R0.out.k.cell 0
  obtain ⟨z, hrun, hz⟩ := R0.out.map.look (k : Int) HK.out
  obtain rfl := hz y HGk.out
  rw [HGk.out] at hrun
  clear hb0 c1 hz
  go_wp2_with fail
  go_ret
  exact ⟨n, g, rfl, R0.out, by omega, Only.of_below HB0.out _⟩
theorem put_done {C : Cx} {W w5 w6 : World} {n4 : Nat} {g4 : Int → Option Int} {k x : Int} (hx : x = C.F k) (h : Rk C w5 n4 g4) (o : Only (fun i => i = C.bm) W w5) (hm : IntM w6 C.bm (n4 + 1) (putG g4 k x)) (hg : w5.grownBy w6 (some C.bm)) : Rk C w6 (n4 + 1) (putG g4 k x) ∧ Only (fun i => i = C.bm) W w6 := by
  have og : Only (fun i => i = C.bm) w5 w6 := Only.of_grown hg fun r e => by simpa using e.symm
  refine ⟨h.only og hm fun j y hy => ?_, o.trans og fun _ h => .inl h⟩
  unfold putG at hy
  split at hy
  · rename_i e
    cases hy
    rw [e]; exact hx
  · exact h.right j y hy
theorem costP_node {L : List Nd} (hR : RightL L) {k : Nat} {x1 x2 x3 : Int} (h : L[k]? = some (x1, x2, x3)) : costP L (k : Int) = costP L x2 + costP L x3 + 1 := fold_node hR h
theorem F_node {C : Cx} (hR : RightL C.L) {k : Nat} {x1 x2 x3 : Int} (h : C.L[k]? = some (x1, x2, x3)) : C.F (k : Int) = C.bF x1 (C.F x2) (C.F x3) := fold_node hR h
set_option maxRecDepth 100000 in
set_option maxHeartbeats 3200000 in
theorem reckon_new (HFn : Fns C) (h : Rk C W n g) {k : Nat} {x1 x2 x3 : Int} (hx : C.L[k]? = some (x1, x2, x3)) (hk : I64 (k : Int)) (hg : g (k : Int) = none) (hn : n + costP C.L (k : Int) < maxLen) (ih2 : Reckons C x2) (ih3 : Reckons C x3) :
    Calls Try.prog 55 #[.int .i64 (k : Int), .pointer (some ⟨C.ba, 0, none⟩), .pointer (some ⟨C.be, 0, none⟩), .pointer (some ⟨C.bk, 0, none⟩), .pointer (some ⟨C.bb, 0, none⟩), .pointer (some ⟨C.bo, 0, none⟩)] W (RetR C n (costP C.L (k : Int)) (C.F (k : Int)) W) := by
  have hc := costP_node HFn.right hx
  have hF := F_node HFn.right hx
  have hI := HFn.num (k : Int)
  rw [hc] at hn ⊢
  rw [hF] at hI ⊢
  have HG := Lib.hid (arena_get h.arena hx)
  have HR := Lib.hid h
  have HK := Lib.hid hk
  have HI := Lib.hid hI
  have HGk := Lib.hid hg
  have HN := Lib.hid hn
  have HFF := Lib.hid hF
  have I2 := Lib.hid ih2
  have I3 := Lib.hid ih3
  have eb := HFn.eb
  have HB : Hid (∀ w, Below C.w0.heap.size C.w0 w → Calls Try.prog C.kb (#[.int .i64 x1, .int .i64 (C.F x2), .int .i64 (C.F x3)] ++ C.lb) w (RetX (C.bF x1 (C.F x2) (C.F x3)) w)) := Lib.hid fun w hw => HFn.hb x1 x2 x3 w (HFn.right.1 k _ hx).1.1 (HFn.right.1 k _ hx).1.2 hw
  have c1 : W.cell? ⟨C.ba, 0, none⟩ = some (.pointer (some ⟨C.p, 0, none⟩)) := h.a.cell 0
  clear h hx hk hg hn hc hF hI ih2 ih3 HFn
  go_enter Try.func55, Try.ntmps55
  go_upto_region 4 with (first
    | (go_at_call 56; ((with_reducible refine HG.out.mono ?_); rintro e w1 ⟨rfl, hb1⟩); have H1 := Lib.hid hb1; clear hb1))
  have hb0 : Below W.heap.size W (w1.alloc (.cells #[.int .i64 x1, .int .i64 x2, .int .i64 x3] 78)) := H1.out.alloc H1.out.size _
  have R0 := Lib.hid (HR.out.below hb0)
  have HB0 := Lib.hid hb0
  have HBn := Lib.hid (Blk.new w1 78 #[.int .i64 x1, .int .i64 x2, .int .i64 x3])
  have c3 : (w1.alloc (.cells #[.int .i64 x1, .int .i64 x2, .int .i64 x3] 78)).cell? ⟨C.bk, 0, none⟩ = some (.map (some C.bm)) := R0.out.k.cell 0
  obtain ⟨z, hrun, -⟩ := R0.out.map.look (k : Int) HK.out
  rw [HGk.out] at hrun
  obtain ⟨W2, hW2⟩ : ∃ W2, w1.alloc (.cells #[.int .i64 x1, .int .i64 x2, .int .i64 x3] 78) = W2 := ⟨_, rfl⟩
  obtain ⟨nb, hnb⟩ : ∃ nb, w1.heap.size = nb := ⟨_, rfl⟩
  rw [hW2] at R0 HB0 HBn c3 hrun ⊢
  rw [hnb] at HBn ⊢
  clear hb0 c1 hW2 hnb
  go_wp2_with fail
  have hd := (Below.refl W2.heap.size W2).drew
  have RD := Lib.hid (R0.out.below hd)
  have HBd := Lib.hid (HBn.out.below hd HBn.out.lt)
  have HOd : Hid (Only (fun i => i = C.bm) W W2.drew) := Lib.hid (Only.of_below (HB0.out.drew) _)
  have K0 := Lib.hid (keep_rk RD.out HBd.out)
  clear hd
  go_region_held3 (fun w => ((C.bb < w.heap.size ∧ C.bo < w.heap.size ∧ nb < w.heap.size) ∧ w.cell? ⟨C.bb, 0, none⟩ = some (.func (.func C.kb) #[] C.lb) ∧ w.cell? ⟨C.bo, 0, none⟩ = some (.func (.func 55) #[] #[.pointer (some ⟨C.ba, 0, none⟩), .pointer (some ⟨C.be, 0, none⟩), .pointer (some ⟨C.bk, 0, none⟩), .pointer (some ⟨C.bb, 0, none⟩), .pointer (some ⟨C.bo, 0, none⟩)]) ∧ w.cell? ⟨nb, 0, none⟩ = some (.int .i64 x1) ∧ w.cell? ⟨nb, 1, none⟩ = some (.int .i64 x2) ∧ w.cell? ⟨nb, 2, none⟩ = some (.int .i64 x3)))
    (first | (with_reducible exact K0.out) | (with_reducible exact K5.out) | (with_reducible exact K4.out) | (with_reducible exact K3.out))
    (first
      | (go_at_fn C.kb; ((with_reducible refine (HB.out _ R4.out.low).mono ?_); rintro e w5 ⟨rfl, hb5⟩); have R5 := Lib.hid (R4.out.below hb5); have O5 := Lib.hid (O4.out.trans (Only.of_below hb5 (fun i => i = C.bm)) fun _ h => .inl h); have K5 := Lib.hid (keep_rk R5.out (B4.out.below hb5 B4.out.lt)); clear hb5)
      | (go_at_call 55; ((with_reducible refine (I3.out _ _ _ R3.out (by have := HN.out; have := N3.out; omega)).mono ?_); rintro e w4 ⟨n4, g4, rfl, r4, m4, o4⟩); have R4 := Lib.hid r4; have O4 := Lib.hid (O3.out.trans o4 fun _ h => .inl h); have B4 := Lib.hid (o4.blk B3.out (ne_map R3.out.map B3.out)); have N4 := Lib.hid (show n4 ≤ n + costP C.L x2 + costP C.L x3 from by have := N3.out; omega); have K4 := Lib.hid (keep_rk r4 B4.out); clear r4 o4 m4)
      | (go_at_call 55; ((with_reducible refine (I2.out _ _ _ R3.out (by have := HN.out; have := N3.out; omega)).mono ?_); rintro e w4 ⟨n4, g4, rfl, r4, m4, o4⟩); have R4 := Lib.hid r4; have O4 := Lib.hid (O3.out.trans o4 fun _ h => .inl h); have B4 := Lib.hid (o4.blk B3.out (ne_map R3.out.map B3.out)); have N4 := Lib.hid (show n4 ≤ n + costP C.L x2 + costP C.L x3 from by have := N3.out; omega); have K4 := Lib.hid (keep_rk r4 B4.out); clear r4 o4 m4)
      | (go_at_call 55; ((with_reducible refine (I2.out _ _ _ RD.out (by have := HN.out; omega)).mono ?_); rintro e w3 ⟨n3, g3, rfl, r3, m3, o3⟩); have R3 := Lib.hid r3; have O3 := Lib.hid (HOd.out.trans o3 fun _ h => .inl h); have B3 := Lib.hid (o3.blk HBd.out (ne_map RD.out.map HBd.out)); have N3 := Lib.hid m3; have K3 := Lib.hid (keep_rk r3 B3.out); clear r3 o3 m3)
      | (go_at_call 55; ((with_reducible refine (I3.out _ _ _ RD.out (by have := HN.out; omega)).mono ?_); rintro e w3 ⟨n3, g3, rfl, r3, m3, o3⟩); have R3 := Lib.hid r3; have O3 := Lib.hid (HOd.out.trans o3 fun _ h => .inl h); have B3 := Lib.hid (o3.blk HBd.out (ne_map RD.out.map HBd.out)); have N3 := Lib.hid m3; have K3 := Lib.hid (keep_rk r3 B3.out); clear r3 o3 m3))
  all_goals
    have c5 : w5.cell? ⟨C.bk, 0, none⟩ = some (.map (some C.bm)) := R5.out.k.cell 0
    obtain ⟨w6, hrun6, hM6, hg6⟩ := R5.out.map.put (k : Int) (C.bF x1 (C.F x2) (C.F x3)) HK.out HI.out (by have := HN.out; have := N4.out; omega)
    have H6 := Lib.hid (put_done HFF.out.symm R5.out O5.out hM6 hg6)
    clear hM6 hg6
    go_wp2_with fail
    go_ret
    exact ⟨n4 + 1, _, rfl, H6.out.1, by have := N4.out; omega, H6.out.2⟩
end
theorem reckon_all {C : Cx} (HF : Fns C) : ∀ r, Reckons C r := by
  refine down HF.right (fun r hr W n g h _ => ?_) fun k x hx _ _ ih2 ih3 W n g h hn => ?_
  · have e : costP C.L r = 0 := fold_out hr
    rw [e]
    exact reckon_end HF h hr
  · obtain ⟨x1, x2, x3⟩ := x
    have hk : I64 (k : Int) := by have := h.arena.few; have := get_len hx; unfold I64; omega
    cases hg : g (k : Int) with
    | some y => exact reckon_known h hx hk hg
    | none => exact reckon_new HF h hx hk hg hn ih2 ih3
end Go.Proofs.Ytcolinjgfcjimaa
