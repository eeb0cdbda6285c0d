/- The contract of ite. -/
import Derived.Test.YtdgjbbcalffbcaaBTwo
namespace Go.Proofs.Ytdgjbbcalffbcaa
open Go.RowKit
attribute [local go_sem ↓] Go.wp_at_zero Go.wp_at_succ

def DoesI (m lim v : Nat) : Prop := ∀ (W : World) (own : Nat → Prop) (L : List Nd) (f g h : Int), Mg W own m lim L → InB L.length f → InB L.length g → InB L.length h → (v : Int) ≤ varP L f → (v : Int) ≤ varP L g → (v : Int) ≤ varP L h →
  Calls Try.prog 41 #[.pointer (some ⟨m, 0, none⟩), .int .i64 f, .int .i64 g, .int .i64 h] W (RetOp (fun b => if fn L f b = true then fn L g b else fn L h b) v own m lim L W)
theorem keyF_ite (L : List Nd) {f : Int} (h0 : 0 ≤ f) (g h : Int) (b : Nat) : keyF L (f, g, h) b = if fn L f b = true then fn L g b else fn L h b := by
  unfold keyF
  dsimp only
  rw [if_neg (by omega), if_neg (by omega), if_neg (by omega), if_neg (by omega), if_neg (by omega), if_neg (by omega), if_neg (by omega)]
theorem top_nat3 {L : List Nd} (hR : RightL L) {f g h : Int} {v : Nat} (hf : InB L.length f) (h0 : 0 ≤ f) (vf : (v : Int) ≤ varP L f) (vg : (v : Int) ≤ varP L g) (vh : (v : Int) ≤ varP L h) : ∃ t : Nat, topP L [f, g, h] = (t : Int) ∧ t < 12 ∧ v ≤ t := by
  have h1 := var_lt12 hR h0 hf.2
  have h2 := varP_ge hR f
  have h3 := varP_ge hR g
  have h4 := varP_ge hR h
  refine ⟨(topP L [f, g, h]).toNat, ?_, ?_, ?_⟩ <;> rw [top_three] <;> omega
section
variable {W : World} {own : Nat → Prop} {m lim : Nat} {L : List Nd}
set_option maxRecDepth 100000 in
set_option maxHeartbeats 3200000 in
theorem ite1_any (hM : Mg W own m lim L) {f g h : Int} {t : Nat} (hop : DoesI m lim (t + 1)) (ht : t < 12) (hf : InB L.length f) (hg : InB L.length g) (hh : InB L.length h) (tf : (t : Int) ≤ varP L f) (tg : (t : Int) ≤ varP L g) (th : (t : Int) ≤ varP L h)
    {b1 b2 b3 b4 b5 : Nat} (h5 : Five W b1 b2 b3 b4 b5 (.pointer (some ⟨m, 0, none⟩)) (.int .i64 f) (.int .i64 t) (.int .i64 g) (.int .i64 h)) (hn : ¬ own b1 ∧ ¬ own b2 ∧ ¬ own b3 ∧ ¬ own b4 ∧ ¬ own b5) (on : Bool) :
    Calls Try.prog 63 #[.bool on, .pointer (some ⟨b1, 0, none⟩), .pointer (some ⟨b2, 0, none⟩), .pointer (some ⟨b3, 0, none⟩), .pointer (some ⟨b4, 0, none⟩), .pointer (some ⟨b5, 0, none⟩)] W
      (RetOp (fun b => if fn L (halfP L f t on) b = true then fn L (halfP L g t on) b else fn L (halfP L h t on) b) (t + 1) own m lim L W) := by
  have hR := hM.right
  have hA := hM.bools
  have HH1 : Hid (∀ w, Below W.heap.size W w → Calls Try.prog 64 #[.pointer (some ⟨m, 0, none⟩), .int .i64 f, .int .i64 t, .bool on] w (RetI (halfP L f t on) w)) := Lib.hid fun w hw => half_any (hM.below hw) f t on
  have HH2 : Hid (∀ w, Below W.heap.size W w → Calls Try.prog 64 #[.pointer (some ⟨m, 0, none⟩), .int .i64 g, .int .i64 t, .bool on] w (RetI (halfP L g t on) w)) := Lib.hid fun w hw => half_any (hM.below hw) g t on
  have HH3 : Hid (∀ w, Below W.heap.size W w → Calls Try.prog 64 #[.pointer (some ⟨m, 0, none⟩), .int .i64 h, .int .i64 t, .bool on] w (RetI (halfP L h t on) w)) := Lib.hid fun w hw => half_any (hM.below hw) h t on
  have HO : Hid (∀ w, Below W.heap.size W w → Calls Try.prog 41 #[.pointer (some ⟨m, 0, none⟩), .int .i64 (halfP L f t on), .int .i64 (halfP L g t on), .int .i64 (halfP L h t on)] w (RetOp (fun b => if fn L (halfP L f t on) b = true then fn L (halfP L g t on) b else fn L (halfP L h t on) b) (t + 1) own m lim L W)) :=
    Lib.hid fun w hw => (hop w own L _ _ _ (hM.below hw) (half_in hR hA hf _ _) (half_in hR hA hg _ _) (half_in hR hA hh _ _) (half_var hR hA hf tf ht on) (half_var hR hA hg tg ht on) (half_var hR hA hh th ht on)).mono fun _ _ hr => hr.from_below hw
  have hb0 : Below W.heap.size W W.drew := (Below.refl _ _).drew
  have K0 : Hid ((b1 < W.drew.heap.size ∧ b2 < W.drew.heap.size ∧ b3 < W.drew.heap.size ∧ b4 < W.drew.heap.size ∧ b5 < W.drew.heap.size) ∧ W.drew.cell? ⟨b1, 0, none⟩ = some (.pointer (some ⟨m, 0, none⟩)) ∧ W.drew.cell? ⟨b2, 0, none⟩ = some (.int .i64 f) ∧ W.drew.cell? ⟨b3, 0, none⟩ = some (.int .i64 t) ∧ W.drew.cell? ⟨b4, 0, none⟩ = some (.int .i64 g) ∧ W.drew.cell? ⟨b5, 0, none⟩ = some (.int .i64 h)) := Lib.hid (h5.below hb0)
  have HB0 := Lib.hid hb0
  have HW : Hid ((b1 < W.heap.size ∧ b2 < W.heap.size ∧ b3 < W.heap.size ∧ b4 < W.heap.size ∧ b5 < W.heap.size) ∧ W.cell? ⟨b1, 0, none⟩ = some (.pointer (some ⟨m, 0, none⟩)) ∧ W.cell? ⟨b2, 0, none⟩ = some (.int .i64 f) ∧ W.cell? ⟨b3, 0, none⟩ = some (.int .i64 t) ∧ W.cell? ⟨b4, 0, none⟩ = some (.int .i64 g) ∧ W.cell? ⟨b5, 0, none⟩ = some (.int .i64 h)) := Lib.hid h5
  have HN := Lib.hid hn
  generalize halfP L f t on = f' at *
  generalize halfP L g t on = g' at *
  generalize halfP L h t on = h' at *
  clear hM hop hf hg hh tf tg th h5 hn hb0
  go_enter Try.func63, Try.ntmps63
  go_wp2_with fail
  go_region_held3 (fun w => ((b1 < w.heap.size ∧ b2 < w.heap.size ∧ b3 < w.heap.size ∧ b4 < w.heap.size ∧ b5 < w.heap.size) ∧ w.cell? ⟨b1, 0, none⟩ = some (.pointer (some ⟨m, 0, none⟩)) ∧ w.cell? ⟨b2, 0, none⟩ = some (.int .i64 f) ∧ w.cell? ⟨b3, 0, none⟩ = some (.int .i64 t) ∧ w.cell? ⟨b4, 0, none⟩ = some (.int .i64 g) ∧ w.cell? ⟨b5, 0, none⟩ = some (.int .i64 h)))
    (first | (with_reducible exact K0.out) | (with_reducible exact went_five q4 HN.out HW.out) | (with_reducible exact keep_five hb3 (keep_five hb2 (keep_five hb1 K0.out))) | (with_reducible exact keep_five hb2 (keep_five hb1 K0.out)) | (with_reducible exact keep_five hb1 K0.out))
    (first
      | (go_at_call 64; ((with_reducible refine (HH3.out w2 HB2.out).mono ?_); rintro e w3 ⟨rfl, hb3⟩); have HB3 := Lib.hid (HB2.out.trans (hb3.mono HB2.out.size)))
      | (go_at_call 64; ((with_reducible refine (HH2.out w1 HB1.out).mono ?_); rintro e w2 ⟨rfl, hb2⟩); have HB2 := Lib.hid (HB1.out.trans (hb2.mono HB1.out.size)))
      | (go_at_call 64; ((with_reducible refine (HH1.out _ HB0.out).mono ?_); rintro e w1 ⟨rfl, hb1⟩); have HB1 := Lib.hid (HB0.out.trans (hb1.mono HB0.out.size)))
      | (go_at_call 41; ((with_reducible refine (HO.out _ HB3.out).mono ?_); rintro e w4 ⟨own4, L4, h4, q4, g4, x4, ev4, rfl, hev⟩)))
  go_wp2_with fail
  go_ret2
  exact ⟨own4, L4, h4, q4, g4, x4, ev4, rfl, hev⟩
set_option maxRecDepth 100000 in
set_option maxHeartbeats 3200000 in
theorem ite_step (hl : lim ≤ 65536) {v : Nat} (hop : ∀ t, v ≤ t → t < 12 → DoesI m lim (t + 1)) : DoesI m lim v := by
  intro W own L f g h hM hf hg hh vf vg vh
  have out : ∀ w, Below W.heap.size W w → ∀ r, InB L.length r → (∀ b, fn L r b = if fn L f b = true then fn L g b else fn L h b) → RetOp (fun b => if fn L f b = true then fn L g b else fn L h b) v own m lim L W (.returned (.tuple #[.int .i64 r, .nilIface])) w := fun w hw r hr he => (ret_ref (hM.below hw) ⟨hr, he⟩).from_below hw
  have s0 : W.heap.size = W.heap.size := rfl
  have s1 := size_up s0 (.cells #[.pointer (some ⟨m, 0, none⟩)] 23)
  have s2 := size_up s1 (.cells #[.int .i64 f] 3)
  have s3 := size_up s2 (.cells #[.int .i64 g] 3)
  have s4 := size_up s3 (.cells #[.int .i64 h] 3)
  have hb4 : Below W.heap.size W _ := (((((Below.refl W.heap.size W).alloc (by first | exact Nat.le_refl _ | omega) (.cells #[.pointer (some ⟨m, 0, none⟩)] 23)).alloc (by rw [s1]; omega) (.cells #[.int .i64 f] 3)).alloc (by rw [s2]; omega) (.cells #[.int .i64 g] 3)).alloc (by rw [s3]; omega) (.cells #[.int .i64 h] 3))
  by_cases h1 : f = -2
  · subst h1
    have HO := Lib.hid (out _ hb4 g hg (fun b => by rw [fn_true, if_pos rfl]))
    clear hM out hop vf vg vh hf hg hh hb4 s0 s1 s2 s3 s4
    go_enter Try.func41, Try.ntmps41
    go_wp2_with fail
    go_ret2
    exact HO.out
  by_cases h2 : g = h
  · subst h2
    have HO := Lib.hid (out _ hb4 g hg (fun b => by split <;> rfl))
    have q1 : (f == -2) = false := by simp [h1]
    clear hM out hop vf vg vh hf hg hh hb4 s0 s1 s2 s3 s4
    go_enter Try.func41, Try.ntmps41
    go_wp2_with fail
    go_ret2
    exact HO.out
  by_cases h3 : f = -1
  · subst h3
    have HO := Lib.hid (out _ hb4 h hh (fun b => by rw [fn_false, if_neg (by simp)]))
    have q2 : (g == h) = false := by simp [h2]
    clear hM out hop vf vg vh hf hg hh hb4 s0 s1 s2 s3 s4
    go_enter Try.func41, Try.ntmps41
    go_wp2_with fail
    go_ret2
    exact HO.out
  · have h0 : 0 ≤ f := by unfold InB at hf; omega
    obtain ⟨t, htop, ht, hvt⟩ := top_nat3 hM.right hf h0 vf vg vh
    have hR := hM.right
    have hA := hM.bools
    have htp := htop
    rw [top_three] at htp
    have tf : (t : Int) ≤ varP L f := by omega
    have tg : (t : Int) ≤ varP L g := by omega
    have th : (t : Int) ≤ varP L h := by omega
    have hn : ∃ (k : Nat) (y : Nd), L[k]? = some y ∧ y.1 = (t : Int) := by
      rcases (show varP L f = t ∨ varP L g = t ∨ varP L h = t by omega) with e | e | e
      · exact node_of_var e ht
      · exact node_of_var e ht
      · exact node_of_var e ht
    have s5 := size_up s4 (.cells #[.int .i64 f, .int .i64 g, .int .i64 h] 3)
    have hbT : Below W.heap.size W _ := ((((((Below.refl W.heap.size W).alloc (by first | exact Nat.le_refl _ | omega) (.cells #[.pointer (some ⟨m, 0, none⟩)] 23)).alloc (by rw [s1]; omega) (.cells #[.int .i64 f] 3)).alloc (by rw [s2]; omega) (.cells #[.int .i64 g] 3)).alloc (by rw [s3]; omega) (.cells #[.int .i64 h] 3)).alloc (by rw [s4]; omega) (.cells #[.int .i64 f, .int .i64 g, .int .i64 h] 3))
    have b5 := Blk.new_ s4 3 #[.int .i64 f, .int .i64 g, .int .i64 h]
    have HT := Lib.hid (top_any (hM.below hbT) [f, g, h] (by simp) (g := W.heap.size + 1 + 1 + 1 + 1) (c := 3) (fun j x hx => by
      have hj : j = 0 ∨ j = 1 ∨ j = 2 := by have := (List.getElem?_eq_some_iff.1 hx).1; simp at this; omega
      rcases hj with rfl | rfl | rfl
      · simp at hx; subst hx; exact b5.cell 0
      · simp at hx; subst hx; exact b5.cell 1
      · simp at hx; subst hx; exact b5.cell 2))
    rw [htop] at HT
    simp only [List.length_cons, List.length_nil, Nat.zero_add, Nat.reduceAdd] at HT
    have hbV := hbT.alloc (by rw [s5]; omega) (.cells #[.int .i64 (t : Int)] 3)
    have v1 := ((((((Blk.new_ s0 23 #[.pointer (some ⟨m, 0, none⟩)]).up (.cells #[.int .i64 f] 3)).up (.cells #[.int .i64 g] 3)).up (.cells #[.int .i64 h] 3)).up (.cells #[.int .i64 f, .int .i64 g, .int .i64 h] 3)).up (.cells #[.int .i64 (t : Int)] 3))
    have v2 := (((((Blk.new_ s1 3 #[.int .i64 f]).up (.cells #[.int .i64 g] 3)).up (.cells #[.int .i64 h] 3)).up (.cells #[.int .i64 f, .int .i64 g, .int .i64 h] 3)).up (.cells #[.int .i64 (t : Int)] 3))
    have v3 := ((((Blk.new_ s2 3 #[.int .i64 g]).up (.cells #[.int .i64 h] 3)).up (.cells #[.int .i64 f, .int .i64 g, .int .i64 h] 3)).up (.cells #[.int .i64 (t : Int)] 3))
    have v4 := (((Blk.new_ s3 3 #[.int .i64 h]).up (.cells #[.int .i64 f, .int .i64 g, .int .i64 h] 3)).up (.cells #[.int .i64 (t : Int)] 3))
    have v5 := ((Blk.new_ s4 3 #[.int .i64 f, .int .i64 g, .int .i64 h]).up (.cells #[.int .i64 (t : Int)] 3))
    have v6 := (Blk.new_ s5 3 #[.int .i64 (t : Int)])
    have hM2 := hM.below hbV
    have not : ∀ i, W.heap.size ≤ i → ¬ own i := fun i hi => new_not hM hi
    have HG := Lib.hid ((grow_any hM2 hl (k1 := f) (k2 := g) (k3 := h) (v := t) (kf := 63) (caps := #[.pointer (some ⟨W.heap.size, 0, none⟩), .pointer (some ⟨W.heap.size + 1, 0, none⟩), .pointer (some ⟨W.heap.size + 1 + 1 + 1 + 1 + 1, 0, none⟩), .pointer (some ⟨W.heap.size + 1 + 1, 0, none⟩), .pointer (some ⟨W.heap.size + 1 + 1 + 1, 0, none⟩)])
      (G := fun on b => if fn L (halfP L f t on) b = true then fn L (halfP L g t on) b else fn L (halfP L h t on) b) (by omega) ⟨hf.2, hg, .inr hh⟩ ht hn
      (fun b => by
        rw [keyF_ite L h0]
        rw [half_fn hR hf b (v := t), half_fn hR hg b (v := t), half_fn hR hh b (v := t)])
      (fun on b c hbc => by
        show (if _ then _ else _) = if _ then _ else _
        rw [halves_flip hR hA hf tf ht on hbc, halves_flip hR hA hg tg ht on hbc, halves_flip hR hA hh th ht on hbc])
      (enters_of Try.func63 (by kernel_rfl) rfl)
      (fun on W1 own1 L1 h1 q1 hm1 => by
        obtain ⟨M, rfl⟩ := hm1
        have i1 : InB (L ++ M).length f := inB_mono hf (by simp)
        have i2 : InB (L ++ M).length g := inB_mono hg (by simp)
        have i3 : InB (L ++ M).length h := inB_mono hh (by simp)
        have hs5 : Five W1 (W.heap.size) (W.heap.size + 1) (W.heap.size + 1 + 1 + 1 + 1 + 1) (W.heap.size + 1 + 1) (W.heap.size + 1 + 1 + 1) (.pointer (some ⟨m, 0, none⟩)) (.int .i64 f) (.int .i64 t) (.int .i64 g) (.int .i64 h) :=
          Five.went q1 ⟨not _ (by omega), not _ (by omega), not _ (by omega), not _ (by omega), not _ (by omega)⟩ ⟨⟨v1.lt, v2.lt, v6.lt, v3.lt, v4.lt⟩, v1.cell 0, v2.cell 0, v6.cell 0, v3.cell 0, v4.cell 0⟩
        have hno : ¬ own1 (W.heap.size) ∧ ¬ own1 (W.heap.size + 1) ∧ ¬ own1 (W.heap.size + 1 + 1 + 1 + 1 + 1) ∧ ¬ own1 (W.heap.size + 1 + 1) ∧ ¬ own1 (W.heap.size + 1 + 1 + 1) :=
          ⟨q1.not (not _ (by omega)) v1.lt, q1.not (not _ (by omega)) v2.lt, q1.not (not _ (by omega)) v6.lt, q1.not (not _ (by omega)) v3.lt, q1.not (not _ (by omega)) v4.lt⟩
        refine (ite1_any h1 (hop t hvt ht) ht i1 i2 i3 (by rw [var_app M hf]; exact tf) (by rw [var_app M hg]; exact tg) (by rw [var_app M hh]; exact th) hs5 hno on).mono fun e w' hr => hr.fn_eq fun b => ?_
        rw [half_more M hf, half_more M hg, half_more M hh, fn_more hR M (half_in hR hA hf _ _), fn_more hR M (half_in hR hA hg _ _), fn_more hR M (half_in hR hA hh _ _)])).mono fun e w' hr => hr.from_below hbV)
    have HF : Hid (∀ b, keyF L (f, g, h) b = if fn L f b = true then fn L g b else fn L h b) := Lib.hid (keyF_ite L h0 g h)
    have q1 : (f == -2) = false := by simp [h1]
    have q2 : (g == h) = false := by simp [h2]
    have q3 : (f == -1) = false := by simp [h3]
    have HV := Lib.hid hvt
    clear hM out hop vf vg vh hf hg hh hb4 s0 s1 s2 s3 s4 s5 b5 hbT hbV v1 v2 v3 v4 v5 v6 hM2 not h0 htop htp ht hvt tf tg th hn hR hA hl
    go_enter Try.func41, Try.ntmps41
    go_wp2_with (first
      | (go_at_call 61; ((with_reducible refine HT.out.mono ?_); rintro e w1 ⟨rfl, rfl⟩))
      | (go_at_call 62; ((with_reducible refine HG.out.mono ?_); rintro e w3 ⟨own3, L3, h3, q3, g3, x3, ev3, rfl, hev⟩)))
    go_ret2
    have hr : RetOp (keyF L (f, g, h)) t own m lim L W (.returned (.tuple #[.int .i64 x3, ev3])) w3 := ⟨own3, L3, h3, q3, g3, x3, ev3, rfl, hev⟩
    exact (hr.fn_eq HF.out).mono HV.out
theorem ite_all (hl : lim ≤ 65536) : ∀ n v, 12 - v ≤ n → DoesI m lim v
  | 0, v, h => ite_step hl fun t h1 h2 => absurd h2 (by omega)
  | n + 1, v, h => ite_step hl fun t h1 h2 => ite_all hl n (t + 1) (by omega)
theorem ite_any (hl : lim ≤ 65536) (v : Nat) : DoesI m lim v := ite_all hl 12 v (by omega)
end
end Go.Proofs.Ytdgjbbcalffbcaa
