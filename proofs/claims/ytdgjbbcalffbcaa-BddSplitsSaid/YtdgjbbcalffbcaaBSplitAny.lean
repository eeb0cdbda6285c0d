/- The contract of split. -/
import Derived.Test.YtdgjbbcalffbcaaBSplit
namespace Go.Proofs.Ytdgjbbcalffbcaa
open Go.RowKit
attribute [local go_sem ↓] Go.wp_at_zero Go.wp_at_succ

theorem Blk.up {w : World} {g : Nat} {t : TypeId} {cs : Array Value} (h : Blk w g t cs) (o : Obj) : Blk (w.alloc o) g t cs := h.below ((Below.refl _ _).alloc (Nat.le_refl _) o) h.lt
theorem Blk.new_ {w : World} {n : Nat} (h : w.heap.size = n) (t : TypeId) (cs : Array Value) : Blk (w.alloc (.cells cs t)) n t cs := h ▸ Blk.new w t cs
theorem size_up {w : World} {n : Nat} (h : w.heap.size = n) (o : Obj) : (w.alloc o).heap.size = n + 1 := by rw [World.size_alloc, h]
theorem node_of_var {L : List Nd} {r : Int} {t : Nat} (h : varP L r = (t : Int)) (ht : t < 12) : ∃ (k : Nat) (y : Nd), L[k]? = some y ∧ y.1 = (t : Int) := by
  by_cases h0 : 0 ≤ r ∧ r < (L.length : Int)
  · obtain ⟨k, rfl⟩ : ∃ k : Nat, r = (k : Int) := ⟨r.toNat, by omega⟩
    have hk : k < L.length := by omega
    have hx : L[k]? = some L[k] := List.getElem?_eq_getElem hk
    exact ⟨k, _, hx, by rw [varP_at hx] at h; exact h⟩
  · unfold varP at h
    rw [if_neg h0] at h
    omega
section
variable {W : World} {own : Nat → Prop} {m lim : Nat} {L : List Nd}
/-- What hangs on two halves. -/
theorem halves_flip (hR : RightL L) (hA : AllB L) {r : Int} {t : Nat} (h : InB L.length r) (hv : (t : Int) ≤ varP L r) (ht : t < 12) (on : Bool) {b c : Nat} (hbc : ∀ i, t + 1 ≤ i → b.testBit i = c.testBit i) : fn L (halfP L r t on) b = fn L (halfP L r t on) c := by
  have := half_var hR hA h hv ht on
  exact fn_flip hR fun v hv => hbc v (by omega)
set_option maxRecDepth 100000 in
set_option maxHeartbeats 3200000 in
theorem split_any (h : Mg W own m lim L) (hl : lim ≤ 65536) {k f g : Int} {t ko : Nat} (hk : k = -1 ∨ k = -2 ∨ k = -3) (eko : ∀ args w, (callFunc ko args).run Try.prog w = .ok (.enter ko args) w) (hop : Does2 ko k m lim (t + 1)) (ht : t < 12) (hf : InB L.length f) (hg : InB L.length g) (htop : topP L [f, g] = (t : Int)) :
    Calls Try.prog 60 #[.pointer (some ⟨m, 0, none⟩), .int .i64 k, .int .i64 f, .int .i64 g, .func (.func ko) #[.pointer (some ⟨m, 0, none⟩)] #[]] W (RetOp (fun b => o2 k (fn L f b) (fn L g b)) t own m lim L W) := by
  have hR := h.right
  have hA := h.bools
  have htp := htop
  rw [top_two] at htp
  have tf : (t : Int) ≤ varP L f := by omega
  have tg : (t : Int) ≤ varP L g := by omega
  have hn : ∃ (k : Nat) (y : Nd), L[k]? = some y ∧ y.1 = (t : Int) := by
    rcases (show varP L f = t ∨ varP L g = t by omega) with e | e
    · exact node_of_var e ht
    · exact node_of_var e ht
  -- the worlds
  have s0 : W.heap.size = W.heap.size := rfl
  have s1 := size_up s0 (.cells #[.pointer (some ⟨m, 0, none⟩)] 23)
  have s2 := size_up s1 (.cells #[.int .i64 f] 3)
  have s3 := size_up s2 (.cells #[.int .i64 g] 3)
  have s4 := size_up s3 (.cells #[.func (.func ko) #[.pointer (some ⟨m, 0, none⟩)] #[]] 95)
  have s5 := size_up s4 (.cells #[.int .i64 f, .int .i64 g] 3)
  have b1 := ((((Blk.new_ s0 23 #[.pointer (some ⟨m, 0, none⟩)]).up (.cells #[.int .i64 f] 3)).up (.cells #[.int .i64 g] 3)).up (.cells #[.func (.func ko) #[.pointer (some ⟨m, 0, none⟩)] #[]] 95)).up (.cells #[.int .i64 f, .int .i64 g] 3)
  have b2 := (((Blk.new_ s1 3 #[.int .i64 f]).up (.cells #[.int .i64 g] 3)).up (.cells #[.func (.func ko) #[.pointer (some ⟨m, 0, none⟩)] #[]] 95)).up (.cells #[.int .i64 f, .int .i64 g] 3)
  have b3 := ((Blk.new_ s2 3 #[.int .i64 g]).up (.cells #[.func (.func ko) #[.pointer (some ⟨m, 0, none⟩)] #[]] 95)).up (.cells #[.int .i64 f, .int .i64 g] 3)
  have b4 := (Blk.new_ s3 95 #[.func (.func ko) #[.pointer (some ⟨m, 0, none⟩)] #[]]).up (.cells #[.int .i64 f, .int .i64 g] 3)
  have b5 := Blk.new_ s4 3 #[.int .i64 f, .int .i64 g]
  have hbT : Below W.heap.size W _ := (((((Below.refl W.heap.size W).alloc (Nat.le_refl _) (.cells #[.pointer (some ⟨m, 0, none⟩)] 23)).alloc (by rw [s1]; omega) (.cells #[.int .i64 f] 3)).alloc (by rw [s2]; omega) (.cells #[.int .i64 g] 3)).alloc (by rw [s3]; omega) (.cells #[.func (.func ko) #[.pointer (some ⟨m, 0, none⟩)] #[]] 95)).alloc (by rw [s4]; omega) (.cells #[.int .i64 f, .int .i64 g] 3)
  have HT := Lib.hid (top_any (h.below hbT) [f, g] (by simp) (g := W.heap.size + 1 + 1 + 1 + 1) (c := 2) (fun j x hx => by
    have hj : j = 0 ∨ j = 1 := by have := (List.getElem?_eq_some_iff.1 hx).1; simp at this; omega
    rcases hj with rfl | rfl
    · simp at hx; subst hx; exact b5.cell 0
    · simp at hx; subst hx; exact b5.cell 1))
  rw [htop] at HT
  simp only [List.length_cons, List.length_nil, Nat.zero_add, Nat.reduceAdd] at HT
  have hbV := hbT.alloc (by rw [s5]; omega) (.cells #[.int .i64 (t : Int)] 3)
  have v1 := b1.up (.cells #[.int .i64 (t : Int)] 3)
  have v2 := b2.up (.cells #[.int .i64 (t : Int)] 3)
  have v3 := b3.up (.cells #[.int .i64 (t : Int)] 3)
  have v4 := b4.up (.cells #[.int .i64 (t : Int)] 3)
  have v6 := Blk.new_ s5 3 #[.int .i64 (t : Int)]
  have hM := h.below hbV
  have not : ∀ i, W.heap.size ≤ i → ¬ own i := fun i hi => new_not h hi
  have HG := Lib.hid ((grow_any hM hl (k1 := k) (k2 := min f g) (k3 := max f g) (v := t) (kf := 73) (caps := #[.pointer (some ⟨W.heap.size + 1 + 1 + 1, 0, none⟩), .pointer (some ⟨W.heap.size, 0, none⟩), .pointer (some ⟨W.heap.size + 1, 0, none⟩), .pointer (some ⟨W.heap.size + 1 + 1 + 1 + 1 + 1, 0, none⟩), .pointer (some ⟨W.heap.size + 1 + 1, 0, none⟩)])
    (G := fun on b => o2 k (fn L (halfP L f t on) b) (fn L (halfP L g t on) b)) (by omega) ⟨by show k < (L.length : Int); omega, by show InB _ (min f g); unfold InB at *; omega, .inr (by show InB _ (max f g); unfold InB at *; omega)⟩ ht hn
    (fun b => by
      rw [keyF_two L hk]
      have e : o2 k (fn L (min f g) b) (fn L (max f g) b) = o2 k (fn L f b) (fn L g b) := by
        by_cases hfg : f ≤ g
        · rw [Int.min_eq_left hfg, Int.max_eq_right hfg]
        · rw [Int.min_eq_right (by omega), Int.max_eq_left (by omega), o2_comm]
      rw [e, half_fn hR hf b (v := t), half_fn hR hg b (v := t)])
    (fun on b c hbc => by
      show o2 k _ _ = o2 k _ _
      rw [halves_flip hR hA hf tf ht on hbc, halves_flip hR hA hg tg ht on hbc])
    (enters_of Try.func73 (by kernel_rfl) rfl)
    (fun on W1 own1 L1 h1 q1 hm1 => by
      obtain ⟨M, rfl⟩ := hm1
      have i1 : InB (L ++ M).length f := inB_mono hf (by simp)
      have i2 : InB (L ++ M).length g := inB_mono hg (by simp)
      have hs5 : Five W1 (W.heap.size + 1 + 1 + 1) W.heap.size (W.heap.size + 1) (W.heap.size + 1 + 1 + 1 + 1 + 1) (W.heap.size + 1 + 1) (.func (.func ko) #[.pointer (some ⟨m, 0, none⟩)] #[]) (.pointer (some ⟨m, 0, none⟩)) (.int .i64 f) (.int .i64 t) (.int .i64 g) :=
        Five.went q1 ⟨not _ (by omega), not _ (by omega), not _ (by omega), not _ (by omega), not _ (by omega)⟩ ⟨⟨v4.lt, v1.lt, v2.lt, v6.lt, v3.lt⟩, v4.cell 0, v1.cell 0, v2.cell 0, v6.cell 0, v3.cell 0⟩
      have hno : ¬ own1 (W.heap.size + 1 + 1 + 1) ∧ ¬ own1 W.heap.size ∧ ¬ own1 (W.heap.size + 1) ∧ ¬ own1 (W.heap.size + 1 + 1 + 1 + 1 + 1) ∧ ¬ own1 (W.heap.size + 1 + 1) :=
        ⟨q1.not (not _ (by omega)) v4.lt, q1.not (not _ (by omega)) v1.lt, q1.not (not _ (by omega)) v2.lt, q1.not (not _ (by omega)) v6.lt, q1.not (not _ (by omega)) v3.lt⟩
      refine (split1_any h1 (k := k) eko hop ht i1 i2 (by rw [var_app M hf]; exact tf) (by rw [var_app M hg]; exact tg) hs5 hno on).mono fun e w' hr => hr.fn_eq fun b => ?_
      rw [half_more M hf, half_more M hg, fn_more hR M (half_in hR hA hf _ _), fn_more hR M (half_in hR hA hg _ _)])).mono fun e w' hr => hr.from_below hbV)
  have HF : Hid (∀ b, keyF L (k, min f g, max f g) b = o2 k (fn L f b) (fn L g b)) := Lib.hid fun b => by
    rw [keyF_two L hk]
    by_cases hfg : f ≤ g
    · rw [Int.min_eq_left hfg, Int.max_eq_right hfg]
    · rw [Int.min_eq_right (by omega), Int.max_eq_left (by omega), o2_comm]
  clear h hop ht hf hg htop htp tf tg hn s0 s1 s2 s3 s4 s5 b1 b2 b3 b4 b5 hbT hbV v1 v2 v3 v4 v6 hM not hk hR hA hl
  go_enter Try.func60, Try.ntmps60
  go_wp2_with (first
    | (go_at_call 61; ((with_reducible refine HT.out.mono ?_); rintro e w1 ⟨rfl, rfl⟩))
    | (go_at_call 62; ((with_reducible refine HG.out.mono ?_); rintro e w3 ⟨own3, L3, h3, q3, g3, x3, ev3, rfl, hev⟩)))
  go_ret2
  have hr : RetOp (keyF L (k, min f g, max f g)) t own m lim L W (.returned (.tuple #[.int .i64 x3, ev3])) w3 := ⟨own3, L3, h3, q3, g3, x3, ev3, rfl, hev⟩
  exact hr.fn_eq HF.out
end
end Go.Proofs.Ytdgjbbcalffbcaa
