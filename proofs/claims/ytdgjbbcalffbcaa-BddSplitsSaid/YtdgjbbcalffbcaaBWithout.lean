/- The contract of without, whatever its operation of two is. -/
import Derived.Test.YtdgjbbcalffbcaaBIte
namespace Go.Proofs.Ytdgjbbcalffbcaa
open Go.RowKit
attribute [local go_sem ↓] Go.wp_at_zero Go.wp_at_succ

/-- What is made of both children. -/
def ow (k : Int) (a b : Bool) : Bool := if k = -4 then a || b else if k = -5 then a else b
theorem ow_self (k : Int) (a : Bool) : ow k a a = a := by unfold ow; split <;> simp
theorem keyF_ow (L : List Nd) {k : Int} (hk : k = -4 ∨ k = -5 ∨ k = -6) (f : Int) (v b : Nat) : keyF L (k, f, (v : Int)) b = ow k (fn L f (setBit b v false)) (fn L f (setBit b v true)) := by
  rcases hk with rfl | rfl | rfl <;> rfl
/-- The operation that is handed over. -/
def DoesW (ko : FuncId) (fst : Array Value) (k : Int) (m lim v : Nat) : Prop := ∀ (W : World) (own : Nat → Prop) (L : List Nd) (f g : Int), Mg W own m lim L → InB L.length f → InB L.length g → (v : Int) ≤ varP L f → (v : Int) ≤ varP L g →
  Calls Try.prog ko (fst ++ #[.int .i64 f, .int .i64 g]) W (RetOp (fun b => ow k (fn L f b) (fn L g b)) v own m lim L W)
def DoesE (ko : FuncId) (fst : Array Value) (k : Int) (m lim v t : Nat) : Prop := ∀ (W : World) (own : Nat → Prop) (L : List Nd) (f : Int), Mg W own m lim L → InB L.length f → (t : Int) ≤ varP L f →
  Calls Try.prog 43 #[.pointer (some ⟨m, 0, none⟩), .int .i64 k, .int .i64 f, .int .i64 v, .func (.func ko) fst #[]] W (RetOp (fun b => ow k (fn L f (setBit b v false)) (fn L f (setBit b v true))) t own m lim L W)
theorem keep_six {w w1 : World} (hb : Below w.heap.size w w1) {b1 b2 b3 b4 b5 b6 : Nat} {x1 x2 x3 x4 x5 x6 : Value} (h : (b1 < w.heap.size ∧ b2 < w.heap.size ∧ b3 < w.heap.size ∧ b4 < w.heap.size ∧ b5 < w.heap.size ∧ b6 < w.heap.size) ∧ w.cell? ⟨b1, 0, none⟩ = some x1 ∧ w.cell? ⟨b2, 0, none⟩ = some x2 ∧ w.cell? ⟨b3, 0, none⟩ = some x3 ∧ w.cell? ⟨b4, 0, none⟩ = some x4 ∧ w.cell? ⟨b5, 0, none⟩ = some x5 ∧ w.cell? ⟨b6, 0, none⟩ = some x6) :
    (b1 < w1.heap.size ∧ b2 < w1.heap.size ∧ b3 < w1.heap.size ∧ b4 < w1.heap.size ∧ b5 < w1.heap.size ∧ b6 < w1.heap.size) ∧ w1.cell? ⟨b1, 0, none⟩ = some x1 ∧ w1.cell? ⟨b2, 0, none⟩ = some x2 ∧ w1.cell? ⟨b3, 0, none⟩ = some x3 ∧ w1.cell? ⟨b4, 0, none⟩ = some x4 ∧ w1.cell? ⟨b5, 0, none⟩ = some x5 ∧ w1.cell? ⟨b6, 0, none⟩ = some x6 := by
  obtain ⟨⟨h1, h2, h3, h4, h5, h6⟩, c1, c2, c3, c4, c5, c6⟩ := h
  have := hb.size
  exact ⟨⟨by omega, by omega, by omega, by omega, by omega, by omega⟩, (hb.cell (p := ⟨b1, 0, none⟩) h1).trans c1, (hb.cell (p := ⟨b2, 0, none⟩) h2).trans c2, (hb.cell (p := ⟨b3, 0, none⟩) h3).trans c3, (hb.cell (p := ⟨b4, 0, none⟩) h4).trans c4, (hb.cell (p := ⟨b5, 0, none⟩) h5).trans c5, (hb.cell (p := ⟨b6, 0, none⟩) h6).trans c6⟩
theorem went_six {w w1 : World} {own own1 : Nat → Prop} (q : Went own w own1 w1) {b1 b2 b3 b4 b5 b6 : Nat} (hn : ¬ own b1 ∧ ¬ own b2 ∧ ¬ own b3 ∧ ¬ own b4 ∧ ¬ own b5 ∧ ¬ own b6) {x1 x2 x3 x4 x5 x6 : Value} (h : (b1 < w.heap.size ∧ b2 < w.heap.size ∧ b3 < w.heap.size ∧ b4 < w.heap.size ∧ b5 < w.heap.size ∧ b6 < w.heap.size) ∧ w.cell? ⟨b1, 0, none⟩ = some x1 ∧ w.cell? ⟨b2, 0, none⟩ = some x2 ∧ w.cell? ⟨b3, 0, none⟩ = some x3 ∧ w.cell? ⟨b4, 0, none⟩ = some x4 ∧ w.cell? ⟨b5, 0, none⟩ = some x5 ∧ w.cell? ⟨b6, 0, none⟩ = some x6) :
    (b1 < w1.heap.size ∧ b2 < w1.heap.size ∧ b3 < w1.heap.size ∧ b4 < w1.heap.size ∧ b5 < w1.heap.size ∧ b6 < w1.heap.size) ∧ w1.cell? ⟨b1, 0, none⟩ = some x1 ∧ w1.cell? ⟨b2, 0, none⟩ = some x2 ∧ w1.cell? ⟨b3, 0, none⟩ = some x3 ∧ w1.cell? ⟨b4, 0, none⟩ = some x4 ∧ w1.cell? ⟨b5, 0, none⟩ = some x5 ∧ w1.cell? ⟨b6, 0, none⟩ = some x6 := by
  obtain ⟨⟨h1, h2, h3, h4, h5, h6⟩, c1, c2, c3, c4, c5, c6⟩ := h
  have := q.size
  exact ⟨⟨by omega, by omega, by omega, by omega, by omega, by omega⟩, (q.cell h1 hn.1).trans c1, (q.cell h2 hn.2.1).trans c2, (q.cell h3 hn.2.2.1).trans c3, (q.cell h4 hn.2.2.2.1).trans c4, (q.cell h5 hn.2.2.2.2.1).trans c5, (q.cell h6 hn.2.2.2.2.2).trans c6⟩
section
variable {W : World} {own : Nat → Prop} {m lim : Nat} {L : List Nd}
set_option maxRecDepth 100000 in
set_option maxHeartbeats 3200000 in
theorem without1_any (hM : Mg W own m lim L) {ko : FuncId} {fst : Array Value} {k f : Int} {v t : Nat} (hop : DoesE ko fst k m lim v (t + 1)) (ht : t < 12) (hf : InB L.length f) (tf : (t : Int) ≤ varP L f)
    {b1 b2 b3 b4 b5 b6 : Nat} (h6 : ((b1 < W.heap.size ∧ b2 < W.heap.size ∧ b3 < W.heap.size ∧ b4 < W.heap.size ∧ b5 < W.heap.size ∧ b6 < W.heap.size) ∧ W.cell? ⟨b1, 0, none⟩ = some (.pointer (some ⟨m, 0, none⟩)) ∧ W.cell? ⟨b2, 0, none⟩ = some (.int .i64 k) ∧ W.cell? ⟨b3, 0, none⟩ = some (.int .i64 f) ∧ W.cell? ⟨b4, 0, none⟩ = some (.int .i64 (t : Int)) ∧ W.cell? ⟨b5, 0, none⟩ = some (.int .i64 (v : Int)) ∧ W.cell? ⟨b6, 0, none⟩ = some (.func (.func ko) fst #[]))) (hn : ¬ own b1 ∧ ¬ own b2 ∧ ¬ own b3 ∧ ¬ own b4 ∧ ¬ own b5 ∧ ¬ own b6) (on : Bool) :
    Calls Try.prog 65 #[.bool on, .pointer (some ⟨b1, 0, none⟩), .pointer (some ⟨b2, 0, none⟩), .pointer (some ⟨b3, 0, none⟩), .pointer (some ⟨b4, 0, none⟩), .pointer (some ⟨b5, 0, none⟩), .pointer (some ⟨b6, 0, none⟩)] W
      (RetOp (fun b => ow k (fn L (halfP L f t on) (setBit b v false)) (fn L (halfP L f t on) (setBit b v true))) (t + 1) own m lim L W) := by
  have hR := hM.right
  have hA := hM.bools
  have HH1 : Hid (∀ w, Below W.heap.size W w → Calls Try.prog 64 #[.pointer (some ⟨m, 0, none⟩), .int .i64 f, .int .i64 (t : Int), .bool on] w (RetI (halfP L f t on) w)) := Lib.hid fun w hw => half_any (hM.below hw) f t on
  have HO : Hid (∀ w, Below W.heap.size W w → Calls Try.prog 43 #[.pointer (some ⟨m, 0, none⟩), .int .i64 k, .int .i64 (halfP L f t on), .int .i64 (v : Int), .func (.func ko) fst #[]] w (RetOp (fun b => ow k (fn L (halfP L f t on) (setBit b v false)) (fn L (halfP L f t on) (setBit b v true))) (t + 1) own m lim L W)) :=
    Lib.hid fun w hw => (hop w own L _ (hM.below hw) (half_in hR hA hf _ _) (half_var hR hA hf tf ht on)).mono fun _ _ hr => hr.from_below hw
  have hb0 : Below W.heap.size W W.drew := (Below.refl _ _).drew
  have K0 : Hid ((b1 < W.drew.heap.size ∧ b2 < W.drew.heap.size ∧ b3 < W.drew.heap.size ∧ b4 < W.drew.heap.size ∧ b5 < W.drew.heap.size ∧ b6 < W.drew.heap.size) ∧ W.drew.cell? ⟨b1, 0, none⟩ = some (.pointer (some ⟨m, 0, none⟩)) ∧ W.drew.cell? ⟨b2, 0, none⟩ = some (.int .i64 k) ∧ W.drew.cell? ⟨b3, 0, none⟩ = some (.int .i64 f) ∧ W.drew.cell? ⟨b4, 0, none⟩ = some (.int .i64 (t : Int)) ∧ W.drew.cell? ⟨b5, 0, none⟩ = some (.int .i64 (v : Int)) ∧ W.drew.cell? ⟨b6, 0, none⟩ = some (.func (.func ko) fst #[])) := Lib.hid (keep_six hb0 h6)
  have HB0 := Lib.hid hb0
  have HW : Hid ((b1 < W.heap.size ∧ b2 < W.heap.size ∧ b3 < W.heap.size ∧ b4 < W.heap.size ∧ b5 < W.heap.size ∧ b6 < W.heap.size) ∧ W.cell? ⟨b1, 0, none⟩ = some (.pointer (some ⟨m, 0, none⟩)) ∧ W.cell? ⟨b2, 0, none⟩ = some (.int .i64 k) ∧ W.cell? ⟨b3, 0, none⟩ = some (.int .i64 f) ∧ W.cell? ⟨b4, 0, none⟩ = some (.int .i64 (t : Int)) ∧ W.cell? ⟨b5, 0, none⟩ = some (.int .i64 (v : Int)) ∧ W.cell? ⟨b6, 0, none⟩ = some (.func (.func ko) fst #[])) := Lib.hid h6
  have HN := Lib.hid hn
  generalize halfP L f t on = f' at *
  clear hM hop hf tf h6 hn hb0
  go_enter Try.func65, Try.ntmps65
  go_wp2_with fail
  go_region_held3 (fun w => ((b1 < w.heap.size ∧ b2 < w.heap.size ∧ b3 < w.heap.size ∧ b4 < w.heap.size ∧ b5 < w.heap.size ∧ b6 < w.heap.size) ∧ w.cell? ⟨b1, 0, none⟩ = some (.pointer (some ⟨m, 0, none⟩)) ∧ w.cell? ⟨b2, 0, none⟩ = some (.int .i64 k) ∧ w.cell? ⟨b3, 0, none⟩ = some (.int .i64 f) ∧ w.cell? ⟨b4, 0, none⟩ = some (.int .i64 (t : Int)) ∧ w.cell? ⟨b5, 0, none⟩ = some (.int .i64 (v : Int)) ∧ w.cell? ⟨b6, 0, none⟩ = some (.func (.func ko) fst #[])))
    (first | (with_reducible exact K0.out) | (with_reducible exact went_six q4 HN.out HW.out) | (with_reducible exact keep_six hb1 K0.out))
    (first
      | (go_at_call 64; ((with_reducible refine (HH1.out _ HB0.out).mono ?_); rintro e w1 ⟨rfl, hb1⟩); have HB1 := Lib.hid (HB0.out.trans (hb1.mono HB0.out.size)))
      | (go_at_call 43; ((with_reducible refine (HO.out _ HB1.out).mono ?_); rintro e w4 ⟨own4, L4, h4, q4, g4, x4, ev4, rfl, hev⟩)))
  go_wp2_with fail
  go_ret2
  exact ⟨own4, L4, h4, q4, g4, x4, ev4, rfl, hev⟩
set_option maxRecDepth 100000 in
set_option maxHeartbeats 3200000 in
theorem without_step (hl : lim ≤ 65536) {ko : FuncId} {fst : Array Value} {k : Int} {v t0 : Nat} (hk : k = -4 ∨ k = -5 ∨ k = -6) (hv : v < 12) (eko : ∀ args w, (callFunc ko args).run Try.prog w = .ok (.enter ko args) w) (hw : DoesW ko fst k m lim (v + 1)) (hop : ∀ t, t0 ≤ t → t < v → DoesE ko fst k m lim v (t + 1)) : DoesE ko fst k m lim v t0 := by
  intro W own L f hM hf vf
  have hR := hM.right
  have hA := hM.bools
  obtain ⟨t, ht⟩ : ∃ t : Nat, varP L f = (t : Int) := ⟨(varP L f).toNat, by have := varP_ge hR f; omega⟩
  have ht12 : t ≤ 12 := by have := varP_le hR f; omega
  have htop : topP L [f] = (t : Int) := by rw [top_one]; omega
  have not : ∀ i, W.heap.size ≤ i → ¬ own i := fun i hi => new_not hM hi
  have s0 : W.heap.size = W.heap.size := rfl
  have s1 := size_up s0 (.cells #[.pointer (some ⟨m, 0, none⟩)] 23)
  have s2 := size_up s1 (.cells #[.int .i64 k] 3)
  have s3 := size_up s2 (.cells #[.int .i64 f] 3)
  have s4 := size_up s3 (.cells #[.int .i64 (v : Int)] 3)
  have s5 := size_up s4 (.cells #[.func (.func ko) fst #[]] 95)
  have s6 := size_up s5 (.cells #[.int .i64 f] 3)
  have hbT : Below W.heap.size W _ := (((((((Below.refl W.heap.size W).alloc (by first | exact Nat.le_refl _ | omega) (.cells #[.pointer (some ⟨m, 0, none⟩)] 23)).alloc (by rw [s1]; omega) (.cells #[.int .i64 k] 3)).alloc (by rw [s2]; omega) (.cells #[.int .i64 f] 3)).alloc (by rw [s3]; omega) (.cells #[.int .i64 (v : Int)] 3)).alloc (by rw [s4]; omega) (.cells #[.func (.func ko) fst #[]] 95)).alloc (by rw [s5]; omega) (.cells #[.int .i64 f] 3))
  have b6 := Blk.new_ s5 3 #[.int .i64 f]
  have HT := Lib.hid (top_any (hM.below hbT) [f] (by simp) (g := W.heap.size + 1 + 1 + 1 + 1 + 1) (c := 1) (fun j x hx => by
    have hj : j = 0 := by have := (List.getElem?_eq_some_iff.1 hx).1; simp at this; omega
    subst hj
    simp at hx; subst hx; exact b6.cell 0))
  rw [htop] at HT
  simp only [List.length_cons, List.length_nil, Nat.zero_add] at HT
  have hbV : Below W.heap.size W (((((((W.alloc (.cells #[.pointer (some ⟨m, 0, none⟩)] 23)).alloc (.cells #[.int .i64 k] 3)).alloc (.cells #[.int .i64 f] 3)).alloc (.cells #[.int .i64 (v : Int)] 3)).alloc (.cells #[.func (.func ko) fst #[]] 95)).alloc (.cells #[.int .i64 f] 3)).alloc (.cells #[.int .i64 (t : Int)] 3)) := hbT.alloc (by rw [s6]; omega) (.cells #[.int .i64 (t : Int)] 3)
  have v1 := (((((((Blk.new_ s0 23 #[.pointer (some ⟨m, 0, none⟩)]).up (.cells #[.int .i64 k] 3)).up (.cells #[.int .i64 f] 3)).up (.cells #[.int .i64 (v : Int)] 3)).up (.cells #[.func (.func ko) fst #[]] 95)).up (.cells #[.int .i64 f] 3)).up (.cells #[.int .i64 (t : Int)] 3))
  have v2 := ((((((Blk.new_ s1 3 #[.int .i64 k]).up (.cells #[.int .i64 f] 3)).up (.cells #[.int .i64 (v : Int)] 3)).up (.cells #[.func (.func ko) fst #[]] 95)).up (.cells #[.int .i64 f] 3)).up (.cells #[.int .i64 (t : Int)] 3))
  have v3 := (((((Blk.new_ s2 3 #[.int .i64 f]).up (.cells #[.int .i64 (v : Int)] 3)).up (.cells #[.func (.func ko) fst #[]] 95)).up (.cells #[.int .i64 f] 3)).up (.cells #[.int .i64 (t : Int)] 3))
  have v4 := ((((Blk.new_ s3 3 #[.int .i64 (v : Int)]).up (.cells #[.func (.func ko) fst #[]] 95)).up (.cells #[.int .i64 f] 3)).up (.cells #[.int .i64 (t : Int)] 3))
  have v5 := (((Blk.new_ s4 95 #[.func (.func ko) fst #[]]).up (.cells #[.int .i64 f] 3)).up (.cells #[.int .i64 (t : Int)] 3))
  have v6 := ((Blk.new_ s5 3 #[.int .i64 f]).up (.cells #[.int .i64 (t : Int)] 3))
  have v7 := (Blk.new_ s6 3 #[.int .i64 (t : Int)])
  have hM2 := hM.below hbV
  by_cases c1 : v < t
  · have HO : Hid (RetOp (fun b => ow k (fn L f (setBit b v false)) (fn L f (setBit b v true))) t0 own m lim L W (.returned (.tuple #[.int .i64 f, .nilIface])) (((((((W.alloc (.cells #[.pointer (some ⟨m, 0, none⟩)] 23)).alloc (.cells #[.int .i64 k] 3)).alloc (.cells #[.int .i64 f] 3)).alloc (.cells #[.int .i64 (v : Int)] 3)).alloc (.cells #[.func (.func ko) fst #[]] 95)).alloc (.cells #[.int .i64 f] 3)).alloc (.cells #[.int .i64 (t : Int)] 3))) := Lib.hid ((ret_ref hM2 ⟨hf, fun b => by
      have e : ∀ on, fn L f (setBit b v on) = fn L f b := fun on => fn_flip hR fun u hu => setBit_other b on (by omega)
      rw [e, e, ow_self]⟩).from_below hbV)
    have c1' : (v : Int) < (t : Int) := by omega
    clear hM hf vf hR hA ht htop not s0 s1 s2 s3 s4 s5 s6 hbT b6 hbV v1 v2 v3 v4 v5 v6 v7 hM2 hw hop hl
    go_enter Try.func43, Try.ntmps43
    go_wp2_with (go_at_call 61; ((with_reducible refine HT.out.mono ?_); rintro e w1 ⟨rfl, rfl⟩))
    go_ret2
    exact HO.out
  by_cases c2 : t = v
  · subst c2
    have HH1 : Hid (∀ w, Below W.heap.size W w → Calls Try.prog 64 #[.pointer (some ⟨m, 0, none⟩), .int .i64 f, .int .i64 (t : Int), .bool false] w (RetI (halfP L f t false) w)) := Lib.hid fun w hw => half_any (hM.below hw) f t false
    have HH2 : Hid (∀ w, Below W.heap.size W w → Calls Try.prog 64 #[.pointer (some ⟨m, 0, none⟩), .int .i64 f, .int .i64 (t : Int), .bool true] w (RetI (halfP L f t true) w)) := Lib.hid fun w hw => half_any (hM.below hw) f t true
    have HO : Hid (∀ w, Below W.heap.size W w → Calls Try.prog ko (fst ++ #[.int .i64 (halfP L f t false), .int .i64 (halfP L f t true)]) w (RetOp (fun b => ow k (fn L f (setBit b t false)) (fn L f (setBit b t true))) (t + 1) own m lim L w)) := Lib.hid fun w hbw =>
      (hw w own L _ _ (hM.below hbw) (half_in hR hA hf _ _) (half_in hR hA hf _ _) (half_var hR hA hf (by omega) hv false) (half_var hR hA hf (by omega) hv true)).mono fun _ _ hr => hr.fn_eq fun b => by
        have e : ∀ on, fn L f (setBit b t on) = fn L (halfP L f t on) b := fun on => by
          rw [half_fn hR hf (setBit b t on) (v := t), setBit_at]
          have := half_var hR hA hf (show (t : Int) ≤ varP L f by omega) hv on
          exact fn_flip hR fun u hu => setBit_other b on (by omega)
        rw [e, e]
    have K0 : Hid ((W.heap.size + 1 + 1 + 1 + 1 < (((((((W.alloc (.cells #[.pointer (some ⟨m, 0, none⟩)] 23)).alloc (.cells #[.int .i64 k] 3)).alloc (.cells #[.int .i64 f] 3)).alloc (.cells #[.int .i64 (t : Int)] 3)).alloc (.cells #[.func (.func ko) fst #[]] 95)).alloc (.cells #[.int .i64 f] 3)).alloc (.cells #[.int .i64 (t : Int)] 3)).drew.heap.size ∧ W.heap.size < (((((((W.alloc (.cells #[.pointer (some ⟨m, 0, none⟩)] 23)).alloc (.cells #[.int .i64 k] 3)).alloc (.cells #[.int .i64 f] 3)).alloc (.cells #[.int .i64 (t : Int)] 3)).alloc (.cells #[.func (.func ko) fst #[]] 95)).alloc (.cells #[.int .i64 f] 3)).alloc (.cells #[.int .i64 (t : Int)] 3)).drew.heap.size ∧ W.heap.size + 1 + 1 < (((((((W.alloc (.cells #[.pointer (some ⟨m, 0, none⟩)] 23)).alloc (.cells #[.int .i64 k] 3)).alloc (.cells #[.int .i64 f] 3)).alloc (.cells #[.int .i64 (t : Int)] 3)).alloc (.cells #[.func (.func ko) fst #[]] 95)).alloc (.cells #[.int .i64 f] 3)).alloc (.cells #[.int .i64 (t : Int)] 3)).drew.heap.size ∧ W.heap.size + 1 + 1 + 1 < (((((((W.alloc (.cells #[.pointer (some ⟨m, 0, none⟩)] 23)).alloc (.cells #[.int .i64 k] 3)).alloc (.cells #[.int .i64 f] 3)).alloc (.cells #[.int .i64 (t : Int)] 3)).alloc (.cells #[.func (.func ko) fst #[]] 95)).alloc (.cells #[.int .i64 f] 3)).alloc (.cells #[.int .i64 (t : Int)] 3)).drew.heap.size ∧ W.heap.size + 1 < (((((((W.alloc (.cells #[.pointer (some ⟨m, 0, none⟩)] 23)).alloc (.cells #[.int .i64 k] 3)).alloc (.cells #[.int .i64 f] 3)).alloc (.cells #[.int .i64 (t : Int)] 3)).alloc (.cells #[.func (.func ko) fst #[]] 95)).alloc (.cells #[.int .i64 f] 3)).alloc (.cells #[.int .i64 (t : Int)] 3)).drew.heap.size) ∧ (((((((W.alloc (.cells #[.pointer (some ⟨m, 0, none⟩)] 23)).alloc (.cells #[.int .i64 k] 3)).alloc (.cells #[.int .i64 f] 3)).alloc (.cells #[.int .i64 (t : Int)] 3)).alloc (.cells #[.func (.func ko) fst #[]] 95)).alloc (.cells #[.int .i64 f] 3)).alloc (.cells #[.int .i64 (t : Int)] 3)).drew.cell? ⟨W.heap.size + 1 + 1 + 1 + 1, 0, none⟩ = some (.func (.func ko) fst #[]) ∧ (((((((W.alloc (.cells #[.pointer (some ⟨m, 0, none⟩)] 23)).alloc (.cells #[.int .i64 k] 3)).alloc (.cells #[.int .i64 f] 3)).alloc (.cells #[.int .i64 (t : Int)] 3)).alloc (.cells #[.func (.func ko) fst #[]] 95)).alloc (.cells #[.int .i64 f] 3)).alloc (.cells #[.int .i64 (t : Int)] 3)).drew.cell? ⟨W.heap.size, 0, none⟩ = some (.pointer (some ⟨m, 0, none⟩)) ∧ (((((((W.alloc (.cells #[.pointer (some ⟨m, 0, none⟩)] 23)).alloc (.cells #[.int .i64 k] 3)).alloc (.cells #[.int .i64 f] 3)).alloc (.cells #[.int .i64 (t : Int)] 3)).alloc (.cells #[.func (.func ko) fst #[]] 95)).alloc (.cells #[.int .i64 f] 3)).alloc (.cells #[.int .i64 (t : Int)] 3)).drew.cell? ⟨W.heap.size + 1 + 1, 0, none⟩ = some (.int .i64 f) ∧ (((((((W.alloc (.cells #[.pointer (some ⟨m, 0, none⟩)] 23)).alloc (.cells #[.int .i64 k] 3)).alloc (.cells #[.int .i64 f] 3)).alloc (.cells #[.int .i64 (t : Int)] 3)).alloc (.cells #[.func (.func ko) fst #[]] 95)).alloc (.cells #[.int .i64 f] 3)).alloc (.cells #[.int .i64 (t : Int)] 3)).drew.cell? ⟨W.heap.size + 1 + 1 + 1, 0, none⟩ = some (.int .i64 (t : Int)) ∧ (((((((W.alloc (.cells #[.pointer (some ⟨m, 0, none⟩)] 23)).alloc (.cells #[.int .i64 k] 3)).alloc (.cells #[.int .i64 f] 3)).alloc (.cells #[.int .i64 (t : Int)] 3)).alloc (.cells #[.func (.func ko) fst #[]] 95)).alloc (.cells #[.int .i64 f] 3)).alloc (.cells #[.int .i64 (t : Int)] 3)).drew.cell? ⟨W.heap.size + 1, 0, none⟩ = some (.int .i64 k)) := Lib.hid (keep_five ((Below.refl _ _).drew) ⟨⟨v5.lt, v1.lt, v3.lt, v4.lt, v2.lt⟩, v5.cell 0, v1.cell 0, v3.cell 0, v4.cell 0, v2.cell 0⟩)
    have HB0 : Hid (Below W.heap.size W (((((((W.alloc (.cells #[.pointer (some ⟨m, 0, none⟩)] 23)).alloc (.cells #[.int .i64 k] 3)).alloc (.cells #[.int .i64 f] 3)).alloc (.cells #[.int .i64 (t : Int)] 3)).alloc (.cells #[.func (.func ko) fst #[]] 95)).alloc (.cells #[.int .i64 f] 3)).alloc (.cells #[.int .i64 (t : Int)] 3)).drew) := Lib.hid hbV.drew
    have HN : Hid (¬ own (W.heap.size + 1 + 1 + 1 + 1) ∧ ¬ own (W.heap.size) ∧ ¬ own (W.heap.size + 1 + 1) ∧ ¬ own (W.heap.size + 1 + 1 + 1) ∧ ¬ own (W.heap.size + 1)) := Lib.hid ⟨not _ (by omega), not _ (by omega), not _ (by omega), not _ (by omega), not _ (by omega)⟩
    have HV : Hid (t0 ≤ t + 1) := Lib.hid (by omega)
    generalize halfP L f t false = f0 at *
    generalize halfP L f t true = f1 at *
    clear hM hf vf hR hA ht htop not s0 s1 s2 s3 s4 s5 s6 hbT b6 hbV v1 v2 v3 v4 v5 v6 v7 hM2 hw hop hl
    go_enter Try.func43, Try.ntmps43
    go_wp2_with (go_at_call 61; ((with_reducible refine HT.out.mono ?_); rintro e w1 ⟨rfl, rfl⟩))
    go_region_held3 (fun w => ((W.heap.size + 1 + 1 + 1 + 1 < w.heap.size ∧ W.heap.size < w.heap.size ∧ W.heap.size + 1 + 1 < w.heap.size ∧ W.heap.size + 1 + 1 + 1 < w.heap.size ∧ W.heap.size + 1 < w.heap.size) ∧ w.cell? ⟨W.heap.size + 1 + 1 + 1 + 1, 0, none⟩ = some (.func (.func ko) fst #[]) ∧ w.cell? ⟨W.heap.size, 0, none⟩ = some (.pointer (some ⟨m, 0, none⟩)) ∧ w.cell? ⟨W.heap.size + 1 + 1, 0, none⟩ = some (.int .i64 f) ∧ w.cell? ⟨W.heap.size + 1 + 1 + 1, 0, none⟩ = some (.int .i64 (t : Int)) ∧ w.cell? ⟨W.heap.size + 1, 0, none⟩ = some (.int .i64 k)))
      (first | (with_reducible exact K0.out) | (with_reducible exact went_five q4 HN.out (keep_five hb2 (keep_five hb1 K0.out))) | (with_reducible exact keep_five hb2 (keep_five hb1 K0.out)) | (with_reducible exact keep_five hb1 K0.out))
      (first
        | (go_at_call 64; ((with_reducible refine (HH2.out w1 HB1.out).mono ?_); rintro e w2 ⟨rfl, hb2⟩); have HB2 := Lib.hid (HB1.out.trans (hb2.mono HB1.out.size)))
        | (go_at_call 64; ((with_reducible refine (HH1.out _ HB0.out).mono ?_); rintro e w1 ⟨rfl, hb1⟩); have HB1 := Lib.hid (HB0.out.trans (hb1.mono HB0.out.size)))
        | (go_at_fn ko; ((with_reducible refine (HO.out _ HB2.out).mono ?_); rintro e w4 ⟨own4, L4, h4, q4, g4, x4, ev4, rfl, hev⟩)))
    go_wp2_with fail
    go_ret2
    have hr : RetOp (fun b => ow k (fn L f (setBit b t false)) (fn L f (setBit b t true))) (t + 1) own m lim L w2 (.returned (.tuple #[.int .i64 x4, ev4])) w4 := ⟨own4, L4, h4, q4, g4, x4, ev4, rfl, hev⟩
    exact (hr.mono HV.out).from_below HB2.out
  · have c3 : t < v := by omega
    have htt : t < 12 := by omega
    have hn := node_of_var ht htt
    have HG := Lib.hid ((grow_any hM2 hl (k1 := k) (k2 := f) (k3 := (v : Int)) (v := t) (kf := 65) (caps := #[.pointer (some ⟨W.heap.size, 0, none⟩), .pointer (some ⟨W.heap.size + 1, 0, none⟩), .pointer (some ⟨W.heap.size + 1 + 1, 0, none⟩), .pointer (some ⟨W.heap.size + 1 + 1 + 1 + 1 + 1 + 1, 0, none⟩), .pointer (some ⟨W.heap.size + 1 + 1 + 1, 0, none⟩), .pointer (some ⟨W.heap.size + 1 + 1 + 1 + 1, 0, none⟩)])
      (G := fun on b => ow k (fn L (halfP L f t on) (setBit b v false)) (fn L (halfP L f t on) (setBit b v true))) (by omega) ⟨by show k < (L.length : Int); omega, hf, .inl (by show -7 ≤ k ∧ k ≤ -4; omega)⟩ htt hn
      (fun b => by
        rw [keyF_ow L hk, half_fn hR hf (setBit b v false) (v := t), half_fn hR hf (setBit b v true) (v := t), setBit_other b false (by omega), setBit_other b true (by omega)])
      (fun on b c hbc => by
        show ow k _ _ = ow k _ _
        have e : ∀ x, fn L (halfP L f t on) (setBit b v x) = fn L (halfP L f t on) (setBit c v x) := fun x => halves_flip hR hA hf (by omega) htt on fun i hi => by
          by_cases hiv : i = v
          · rw [hiv, setBit_at, setBit_at]
          · rw [setBit_other b x hiv, setBit_other c x hiv]; exact hbc i hi
        rw [e, e])
      (enters_of Try.func65 (by kernel_rfl) rfl)
      (fun on W1 own1 L1 h1 q1 hm1 => by
        obtain ⟨M, rfl⟩ := hm1
        have i1 : InB (L ++ M).length f := inB_mono hf (by simp)
        refine (without1_any h1 (hop t (by omega) c3) htt i1 (by rw [var_app M hf]; omega)
          (went_six q1 ⟨not _ (by omega), not _ (by omega), not _ (by omega), not _ (by omega), not _ (by omega), not _ (by omega)⟩ ⟨⟨v1.lt, v2.lt, v3.lt, v7.lt, v4.lt, v5.lt⟩, v1.cell 0, v2.cell 0, v3.cell 0, v7.cell 0, v4.cell 0, v5.cell 0⟩)
          ⟨q1.not (not _ (by omega)) v1.lt, q1.not (not _ (by omega)) v2.lt, q1.not (not _ (by omega)) v3.lt, q1.not (not _ (by omega)) v7.lt, q1.not (not _ (by omega)) v4.lt, q1.not (not _ (by omega)) v5.lt⟩ on).mono fun e w' hr => hr.fn_eq fun b => ?_
        rw [half_more M hf, fn_more hR M (half_in hR hA hf _ _), fn_more hR M (half_in hR hA hf _ _)])).mono fun e w' hr => hr.from_below hbV)
    have HF : Hid (∀ b, keyF L (k, f, (v : Int)) b = ow k (fn L f (setBit b v false)) (fn L f (setBit b v true))) := Lib.hid (keyF_ow L hk f v)
    have HV : Hid (t0 ≤ t) := Lib.hid (by omega)
    have c1' : ¬ (v : Int) < (t : Int) := by omega
    have c2' : ((t : Int) == (v : Int)) = false := by simp; omega
    clear hM hf vf hR hA ht htop not s0 s1 s2 s3 s4 s5 s6 hbT b6 hbV v1 v2 v3 v4 v5 v6 v7 hM2 hw hop hl c1 c2 c3
    go_enter Try.func43, Try.ntmps43
    go_wp2_with (first
      | (go_at_call 61; ((with_reducible refine HT.out.mono ?_); rintro e w1 ⟨rfl, rfl⟩))
      | (go_at_call 62; ((with_reducible refine HG.out.mono ?_); rintro e w3 ⟨own3, L3, h3, q3, g3, x3, ev3, rfl, hev⟩)))
    go_ret2
    have hr : RetOp (keyF L (k, f, (v : Int))) t own m lim L W (.returned (.tuple #[.int .i64 x3, ev3])) w3 := ⟨own3, L3, h3, q3, g3, x3, ev3, rfl, hev⟩
    exact (hr.fn_eq HF.out).mono HV.out
theorem without_all (hl : lim ≤ 65536) {ko : FuncId} {fst : Array Value} {k : Int} {v : Nat} (hk : k = -4 ∨ k = -5 ∨ k = -6) (hv : v < 12) (eko : ∀ args w, (callFunc ko args).run Try.prog w = .ok (.enter ko args) w) (hw : DoesW ko fst k m lim (v + 1)) : ∀ n t0, 12 - t0 ≤ n → DoesE ko fst k m lim v t0
  | 0, t0, h => without_step hl hk hv eko hw fun t h1 h2 => absurd h2 (by omega)
  | n + 1, t0, h => without_step hl hk hv eko hw fun t h1 h2 => without_all hl hk hv eko hw n (t + 1) (by omega)
end
end Go.Proofs.Ytdgjbbcalffbcaa
