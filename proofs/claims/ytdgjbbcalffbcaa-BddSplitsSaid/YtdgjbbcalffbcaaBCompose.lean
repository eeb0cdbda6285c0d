/- The contract of compose; and the operations that without is given. -/
import Derived.Test.YtdgjbbcalffbcaaBWithout
namespace Go.Proofs.Ytdgjbbcalffbcaa
open Go.RowKit
attribute [local go_sem ↓] Go.wp_at_zero Go.wp_at_succ

section
variable {m lim : Nat}
theorem first_any (v : Nat) : DoesW 45 #[] (-5) m lim v := by
  intro W own L f g h hf hg vf vg
  show Calls Try.prog 45 #[.int .i64 f, .int .i64 g] W _
  have HO := Lib.hid (ret_ref (v := v) (F := fun b => ow (-5) (fn L f b) (fn L g b)) h ⟨hf, fun b => rfl⟩)
  clear h hf hg vf vg
  go_enter Try.func45, Try.ntmps45
  go_wp2_with fail
  go_ret2
  exact HO.out
theorem second_any (v : Nat) : DoesW 44 #[] (-6) m lim v := by
  intro W own L f g h hf hg vf vg
  show Calls Try.prog 44 #[.int .i64 f, .int .i64 g] W _
  have HO := Lib.hid (ret_ref (v := v) (F := fun b => ow (-6) (fn L f b) (fn L g b)) h ⟨hg, fun b => rfl⟩)
  clear h hf hg vf vg
  go_enter Try.func44, Try.ntmps44
  go_wp2_with fail
  go_ret2
  exact HO.out
theorem orW_any (hl : lim ≤ 65536) (v : Nat) : DoesW 50 #[.pointer (some ⟨m, 0, none⟩)] (-4) m lim v := by
  intro W own L f g h hf hg vf vg
  exact or_any hl v W own L f g h hf hg vf vg
theorem low_any (hl : lim ≤ 65536) {v : Nat} (hv : v < 12) : DoesE 45 #[] (-5) m lim v 0 :=
  without_all hl (.inr (.inl rfl)) hv (enters_of Try.func45 (by kernel_rfl) rfl) (first_any _) 12 0 (by omega)
theorem high_any (hl : lim ≤ 65536) {v : Nat} (hv : v < 12) : DoesE 44 #[] (-6) m lim v 0 :=
  without_all hl (.inr (.inr rfl)) hv (enters_of Try.func44 (by kernel_rfl) rfl) (second_any _) 12 0 (by omega)
theorem exists_any (hl : lim ≤ 65536) {v : Nat} (hv : v < 12) : DoesE 50 #[.pointer (some ⟨m, 0, none⟩)] (-4) m lim v 0 :=
  without_all hl (.inl rfl) hv (enters_of Try.func50 (by kernel_rfl) rfl) (orW_any hl _) 12 0 (by omega)
end
def DoesC (m lim v t : Nat) : Prop := ∀ (W : World) (own : Nat → Prop) (L : List Nd) (f g : Int), Mg W own m lim L → InB L.length f → InB L.length g → (t : Int) ≤ varP L f → (t : Int) ≤ varP L g →
  Calls Try.prog 46 #[.pointer (some ⟨m, 0, none⟩), .int .i64 f, .int .i64 v, .int .i64 g] W (RetOp (fun b => fn L f (setBit b v (fn L g b))) t own m lim L W)
theorem keyF_comp (L : List Nd) (f g : Int) (v b : Nat) : keyF L (-8 - (v : Int), f, g) b = fn L f (setBit b v (fn L g b)) := by
  unfold keyF
  dsimp only
  rw [if_neg (by omega), if_neg (by omega), if_neg (by omega), if_neg (by omega), if_neg (by omega), if_neg (by omega), if_pos (by omega)]
  rw [show (-8 - (-8 - (v : Int))).toNat = v by omega]
section
variable {W : World} {own : Nat → Prop} {m lim : Nat} {L : List Nd}
set_option maxRecDepth 100000 in
set_option maxHeartbeats 3200000 in
theorem compose1_any (hM : Mg W own m lim L) {f g : Int} {v t : Nat} (hop : DoesC m lim v (t + 1)) (ht : t < 12) (hf : InB L.length f) (hg : InB L.length g) (tf : (t : Int) ≤ varP L f) (tg : (t : Int) ≤ varP L g)
    {b1 b2 b3 b4 b5 : Nat} (h5 : ((b1 < W.heap.size ∧ b2 < W.heap.size ∧ b3 < W.heap.size ∧ b4 < W.heap.size ∧ b5 < W.heap.size) ∧ W.cell? ⟨b1, 0, none⟩ = some (.pointer (some ⟨m, 0, none⟩)) ∧ W.cell? ⟨b2, 0, none⟩ = some (.int .i64 f) ∧ W.cell? ⟨b3, 0, none⟩ = some (.int .i64 (t : Int)) ∧ W.cell? ⟨b4, 0, none⟩ = some (.int .i64 (v : Int)) ∧ W.cell? ⟨b5, 0, none⟩ = some (.int .i64 g))) (hn : ¬ own b1 ∧ ¬ own b2 ∧ ¬ own b3 ∧ ¬ own b4 ∧ ¬ own b5) (on : Bool) :
    Calls Try.prog 66 #[.bool on, .pointer (some ⟨b1, 0, none⟩), .pointer (some ⟨b2, 0, none⟩), .pointer (some ⟨b3, 0, none⟩), .pointer (some ⟨b4, 0, none⟩), .pointer (some ⟨b5, 0, none⟩)] W
      (RetOp (fun b => fn L (halfP L f t on) (setBit b v (fn L (halfP L g t on) b))) (t + 1) own m lim L W) := by
  have hR := hM.right
  have hA := hM.bools
  have HH1 : Hid (∀ w, Below W.heap.size W w → Calls Try.prog 64 #[.pointer (some ⟨m, 0, none⟩), .int .i64 f, .int .i64 (t : Int), .bool on] w (RetI (halfP L f t on) w)) := Lib.hid fun w hw => half_any (hM.below hw) f t on
  have HH2 : Hid (∀ w, Below W.heap.size W w → Calls Try.prog 64 #[.pointer (some ⟨m, 0, none⟩), .int .i64 g, .int .i64 (t : Int), .bool on] w (RetI (halfP L g t on) w)) := Lib.hid fun w hw => half_any (hM.below hw) g t on
  have HO : Hid (∀ w, Below W.heap.size W w → Calls Try.prog 46 #[.pointer (some ⟨m, 0, none⟩), .int .i64 (halfP L f t on), .int .i64 (v : Int), .int .i64 (halfP L g t on)] w (RetOp (fun b => fn L (halfP L f t on) (setBit b v (fn L (halfP L g t on) b))) (t + 1) own m lim L W)) :=
    Lib.hid fun w hw => (hop w own L _ _ (hM.below hw) (half_in hR hA hf _ _) (half_in hR hA hg _ _) (half_var hR hA hf tf ht on) (half_var hR hA hg tg ht on)).mono fun _ _ hr => hr.from_below hw
  have hb0 : Below W.heap.size W W.drew := (Below.refl _ _).drew
  have K0 : Hid ((b1 < W.drew.heap.size ∧ b2 < W.drew.heap.size ∧ b3 < W.drew.heap.size ∧ b4 < W.drew.heap.size ∧ b5 < W.drew.heap.size) ∧ W.drew.cell? ⟨b1, 0, none⟩ = some (.pointer (some ⟨m, 0, none⟩)) ∧ W.drew.cell? ⟨b2, 0, none⟩ = some (.int .i64 f) ∧ W.drew.cell? ⟨b3, 0, none⟩ = some (.int .i64 (t : Int)) ∧ W.drew.cell? ⟨b4, 0, none⟩ = some (.int .i64 (v : Int)) ∧ W.drew.cell? ⟨b5, 0, none⟩ = some (.int .i64 g)) := Lib.hid (keep_five hb0 h5)
  have HB0 := Lib.hid hb0
  have HW : Hid ((b1 < W.heap.size ∧ b2 < W.heap.size ∧ b3 < W.heap.size ∧ b4 < W.heap.size ∧ b5 < W.heap.size) ∧ W.cell? ⟨b1, 0, none⟩ = some (.pointer (some ⟨m, 0, none⟩)) ∧ W.cell? ⟨b2, 0, none⟩ = some (.int .i64 f) ∧ W.cell? ⟨b3, 0, none⟩ = some (.int .i64 (t : Int)) ∧ W.cell? ⟨b4, 0, none⟩ = some (.int .i64 (v : Int)) ∧ W.cell? ⟨b5, 0, none⟩ = some (.int .i64 g)) := Lib.hid h5
  have HN := Lib.hid hn
  generalize halfP L f t on = f' at *
  generalize halfP L g t on = g' at *
  clear hM hop hf hg tf tg h5 hn hb0
  go_enter Try.func66, Try.ntmps66
  go_wp2_with fail
  go_region_held3 (fun w => ((b1 < w.heap.size ∧ b2 < w.heap.size ∧ b3 < w.heap.size ∧ b4 < w.heap.size ∧ b5 < w.heap.size) ∧ w.cell? ⟨b1, 0, none⟩ = some (.pointer (some ⟨m, 0, none⟩)) ∧ w.cell? ⟨b2, 0, none⟩ = some (.int .i64 f) ∧ w.cell? ⟨b3, 0, none⟩ = some (.int .i64 (t : Int)) ∧ w.cell? ⟨b4, 0, none⟩ = some (.int .i64 (v : Int)) ∧ w.cell? ⟨b5, 0, none⟩ = some (.int .i64 g)))
    (first | (with_reducible exact K0.out) | (with_reducible exact went_five q4 HN.out HW.out) | (with_reducible exact keep_five hb2 (keep_five hb1 K0.out)) | (with_reducible exact keep_five hb1 K0.out))
    (first
      | (go_at_call 64; ((with_reducible refine (HH2.out w1 HB1.out).mono ?_); rintro e w2 ⟨rfl, hb2⟩); have HB2 := Lib.hid (HB1.out.trans (hb2.mono HB1.out.size)))
      | (go_at_call 64; ((with_reducible refine (HH1.out _ HB0.out).mono ?_); rintro e w1 ⟨rfl, hb1⟩); have HB1 := Lib.hid (HB0.out.trans (hb1.mono HB0.out.size)))
      | (go_at_call 46; ((with_reducible refine (HO.out _ HB2.out).mono ?_); rintro e w4 ⟨own4, L4, h4, q4, g4, x4, ev4, rfl, hev⟩)))
  go_wp2_with fail
  go_ret2
  exact ⟨own4, L4, h4, q4, g4, x4, ev4, rfl, hev⟩
set_option maxRecDepth 100000 in
set_option maxHeartbeats 3200000 in
theorem compose_step (hl : lim ≤ 65536) {v t0 : Nat} (hv : v < 12) (hop : ∀ t, t0 ≤ t → t < v → DoesC m lim v (t + 1)) : DoesC m lim v t0 := by
  intro W own L f g hM hf hg vf vg
  have hR := hM.right
  have hA := hM.bools
  obtain ⟨a, ha⟩ : ∃ a : Nat, varP L f = (a : Int) := ⟨(varP L f).toNat, by have := varP_ge hR f; omega⟩
  have ha12 : a ≤ 12 := by have := varP_le hR f; omega
  have htop : topP L [f] = (a : Int) := by rw [top_one]; omega
  have not : ∀ i, W.heap.size ≤ i → ¬ own i := fun i hi => new_not hM hi
  have s0 : W.heap.size = W.heap.size := rfl
  have s1 := size_up s0 (.cells #[.pointer (some ⟨m, 0, none⟩)] 23)
  have s2 := size_up s1 (.cells #[.int .i64 f] 3)
  have s3 := size_up s2 (.cells #[.int .i64 (v : Int)] 3)
  have s4 := size_up s3 (.cells #[.int .i64 g] 3)
  have s5 := size_up s4 (.cells #[.int .i64 f] 3)
  have hbT : Below W.heap.size W (((((W.alloc (.cells #[.pointer (some ⟨m, 0, none⟩)] 23)).alloc (.cells #[.int .i64 f] 3)).alloc (.cells #[.int .i64 (v : Int)] 3)).alloc (.cells #[.int .i64 g] 3)).alloc (.cells #[.int .i64 f] 3)) := ((((((Below.refl W.heap.size W).alloc (by first | exact Nat.le_refl _ | omega) (.cells #[.pointer (some ⟨m, 0, none⟩)] 23)).alloc (by rw [s1]; omega) (.cells #[.int .i64 f] 3)).alloc (by rw [s2]; omega) (.cells #[.int .i64 (v : Int)] 3)).alloc (by rw [s3]; omega) (.cells #[.int .i64 g] 3)).alloc (by rw [s4]; omega) (.cells #[.int .i64 f] 3))
  have u1 := (((((Blk.new_ s0 23 #[.pointer (some ⟨m, 0, none⟩)]).up (.cells #[.int .i64 f] 3)).up (.cells #[.int .i64 (v : Int)] 3)).up (.cells #[.int .i64 g] 3)).up (.cells #[.int .i64 f] 3))
  have u2 := ((((Blk.new_ s1 3 #[.int .i64 f]).up (.cells #[.int .i64 (v : Int)] 3)).up (.cells #[.int .i64 g] 3)).up (.cells #[.int .i64 f] 3))
  have u3 := (((Blk.new_ s2 3 #[.int .i64 (v : Int)]).up (.cells #[.int .i64 g] 3)).up (.cells #[.int .i64 f] 3))
  have u4 := ((Blk.new_ s3 3 #[.int .i64 g]).up (.cells #[.int .i64 f] 3))
  have u5 := (Blk.new_ s4 3 #[.int .i64 f])
  have HT := Lib.hid (top_any (hM.below hbT) [f] (by simp) (g := W.heap.size + 1 + 1 + 1 + 1) (c := 1) (fun j x hx => by
    have hj : j = 0 := by have := (List.getElem?_eq_some_iff.1 hx).1; simp at this; omega
    subst hj
    simp at hx; subst hx; exact u5.cell 0))
  rw [htop] at HT
  simp only [List.length_cons, List.length_nil, Nat.zero_add] at HT
  have hM5 := hM.below hbT
  by_cases c1 : v < a
  · have HO : Hid (RetOp (fun b => fn L f (setBit b v (fn L g b))) t0 own m lim L W (.returned (.tuple #[.int .i64 f, .nilIface])) (((((W.alloc (.cells #[.pointer (some ⟨m, 0, none⟩)] 23)).alloc (.cells #[.int .i64 f] 3)).alloc (.cells #[.int .i64 (v : Int)] 3)).alloc (.cells #[.int .i64 g] 3)).alloc (.cells #[.int .i64 f] 3))) := Lib.hid ((ret_ref hM5 ⟨hf, fun b => by
      exact (fn_flip hR fun u hu => setBit_other b _ (by omega)).symm⟩).from_below hbT)
    have c1' : (v : Int) < (a : Int) := by omega
    clear hM hf hg vf vg hR hA ha htop not s0 s1 s2 s3 s4 s5 hbT u1 u2 u3 u4 u5 hM5 hop hl
    go_enter Try.func46, Try.ntmps46
    go_wp2_with (go_at_call 61; ((with_reducible refine HT.out.mono ?_); rintro e w1 ⟨rfl, rfl⟩))
    go_ret2
    exact HO.out
  by_cases c2 : a = v
  · subst c2
    have HH1 : Hid (∀ w, Below W.heap.size W w → Calls Try.prog 64 #[.pointer (some ⟨m, 0, none⟩), .int .i64 f, .int .i64 (a : Int), .bool true] w (RetI (halfP L f a true) w)) := Lib.hid fun w hw => half_any (hM.below hw) f a true
    have HH2 : Hid (∀ w, Below W.heap.size W w → Calls Try.prog 64 #[.pointer (some ⟨m, 0, none⟩), .int .i64 f, .int .i64 (a : Int), .bool false] w (RetI (halfP L f a false) w)) := Lib.hid fun w hw => half_any (hM.below hw) f a false
    have HO : Hid (∀ w, Below W.heap.size W w → Calls Try.prog 41 #[.pointer (some ⟨m, 0, none⟩), .int .i64 g, .int .i64 (halfP L f a true), .int .i64 (halfP L f a false)] w (RetOp (fun b => fn L f (setBit b a (fn L g b))) t0 own m lim L w)) := Lib.hid fun w hbw => by
      have k1 := half_var hR hA hf (show (a : Int) ≤ varP L f by omega) hv true
      have k0 := half_var hR hA hf (show (a : Int) ≤ varP L f by omega) hv false
      refine (ite_any hl t0 w own L _ _ _ (hM.below hbw) hg (half_in hR hA hf _ _) (half_in hR hA hf _ _) vg (by omega) (by omega)).mono fun _ _ hr => hr.fn_eq fun b => ?_
      have e : ∀ on, fn L f (setBit b a on) = fn L (halfP L f a on) b := fun on => by
        rw [half_fn hR hf (setBit b a on) (v := a), setBit_at]
        have := half_var hR hA hf (show (a : Int) ≤ varP L f by omega) hv on
        exact fn_flip hR fun u hu => setBit_other b on (by omega)
      rw [e]
      cases fn L g b <;> rfl
    have K0 : Hid ((W.heap.size < (((((W.alloc (.cells #[.pointer (some ⟨m, 0, none⟩)] 23)).alloc (.cells #[.int .i64 f] 3)).alloc (.cells #[.int .i64 (a : Int)] 3)).alloc (.cells #[.int .i64 g] 3)).alloc (.cells #[.int .i64 f] 3)).drew.heap.size ∧ W.heap.size + 1 < (((((W.alloc (.cells #[.pointer (some ⟨m, 0, none⟩)] 23)).alloc (.cells #[.int .i64 f] 3)).alloc (.cells #[.int .i64 (a : Int)] 3)).alloc (.cells #[.int .i64 g] 3)).alloc (.cells #[.int .i64 f] 3)).drew.heap.size ∧ W.heap.size + 1 + 1 < (((((W.alloc (.cells #[.pointer (some ⟨m, 0, none⟩)] 23)).alloc (.cells #[.int .i64 f] 3)).alloc (.cells #[.int .i64 (a : Int)] 3)).alloc (.cells #[.int .i64 g] 3)).alloc (.cells #[.int .i64 f] 3)).drew.heap.size ∧ W.heap.size + 1 + 1 + 1 < (((((W.alloc (.cells #[.pointer (some ⟨m, 0, none⟩)] 23)).alloc (.cells #[.int .i64 f] 3)).alloc (.cells #[.int .i64 (a : Int)] 3)).alloc (.cells #[.int .i64 g] 3)).alloc (.cells #[.int .i64 f] 3)).drew.heap.size ∧ W.heap.size + 1 + 1 + 1 + 1 < (((((W.alloc (.cells #[.pointer (some ⟨m, 0, none⟩)] 23)).alloc (.cells #[.int .i64 f] 3)).alloc (.cells #[.int .i64 (a : Int)] 3)).alloc (.cells #[.int .i64 g] 3)).alloc (.cells #[.int .i64 f] 3)).drew.heap.size) ∧ (((((W.alloc (.cells #[.pointer (some ⟨m, 0, none⟩)] 23)).alloc (.cells #[.int .i64 f] 3)).alloc (.cells #[.int .i64 (a : Int)] 3)).alloc (.cells #[.int .i64 g] 3)).alloc (.cells #[.int .i64 f] 3)).drew.cell? ⟨W.heap.size, 0, none⟩ = some (.pointer (some ⟨m, 0, none⟩)) ∧ (((((W.alloc (.cells #[.pointer (some ⟨m, 0, none⟩)] 23)).alloc (.cells #[.int .i64 f] 3)).alloc (.cells #[.int .i64 (a : Int)] 3)).alloc (.cells #[.int .i64 g] 3)).alloc (.cells #[.int .i64 f] 3)).drew.cell? ⟨W.heap.size + 1, 0, none⟩ = some (.int .i64 f) ∧ (((((W.alloc (.cells #[.pointer (some ⟨m, 0, none⟩)] 23)).alloc (.cells #[.int .i64 f] 3)).alloc (.cells #[.int .i64 (a : Int)] 3)).alloc (.cells #[.int .i64 g] 3)).alloc (.cells #[.int .i64 f] 3)).drew.cell? ⟨W.heap.size + 1 + 1, 0, none⟩ = some (.int .i64 (a : Int)) ∧ (((((W.alloc (.cells #[.pointer (some ⟨m, 0, none⟩)] 23)).alloc (.cells #[.int .i64 f] 3)).alloc (.cells #[.int .i64 (a : Int)] 3)).alloc (.cells #[.int .i64 g] 3)).alloc (.cells #[.int .i64 f] 3)).drew.cell? ⟨W.heap.size + 1 + 1 + 1, 0, none⟩ = some (.int .i64 g) ∧ (((((W.alloc (.cells #[.pointer (some ⟨m, 0, none⟩)] 23)).alloc (.cells #[.int .i64 f] 3)).alloc (.cells #[.int .i64 (a : Int)] 3)).alloc (.cells #[.int .i64 g] 3)).alloc (.cells #[.int .i64 f] 3)).drew.cell? ⟨W.heap.size + 1 + 1 + 1 + 1, 0, none⟩ = some (.int .i64 f)) := Lib.hid (keep_five ((Below.refl _ _).drew) ⟨⟨u1.lt, u2.lt, u3.lt, u4.lt, u5.lt⟩, u1.cell 0, u2.cell 0, u3.cell 0, u4.cell 0, u5.cell 0⟩)
    have HB0 : Hid (Below W.heap.size W (((((W.alloc (.cells #[.pointer (some ⟨m, 0, none⟩)] 23)).alloc (.cells #[.int .i64 f] 3)).alloc (.cells #[.int .i64 (a : Int)] 3)).alloc (.cells #[.int .i64 g] 3)).alloc (.cells #[.int .i64 f] 3)).drew) := Lib.hid hbT.drew
    have HN : Hid (¬ own (W.heap.size) ∧ ¬ own (W.heap.size + 1) ∧ ¬ own (W.heap.size + 1 + 1) ∧ ¬ own (W.heap.size + 1 + 1 + 1) ∧ ¬ own (W.heap.size + 1 + 1 + 1 + 1)) := Lib.hid ⟨not _ (by omega), not _ (by omega), not _ (by omega), not _ (by omega), not _ (by omega)⟩
    generalize halfP L f a true = f1 at *
    generalize halfP L f a false = f0 at *
    clear hM hf hg vf vg hR hA ha htop not s0 s1 s2 s3 s4 s5 hbT u1 u2 u3 u4 u5 hM5 hop hl
    go_enter Try.func46, Try.ntmps46
    go_wp2_with (go_at_call 61; ((with_reducible refine HT.out.mono ?_); rintro e w1 ⟨rfl, rfl⟩))
    go_region_held3 (fun w => ((W.heap.size < w.heap.size ∧ W.heap.size + 1 < w.heap.size ∧ W.heap.size + 1 + 1 < w.heap.size ∧ W.heap.size + 1 + 1 + 1 < w.heap.size ∧ W.heap.size + 1 + 1 + 1 + 1 < w.heap.size) ∧ w.cell? ⟨W.heap.size, 0, none⟩ = some (.pointer (some ⟨m, 0, none⟩)) ∧ w.cell? ⟨W.heap.size + 1, 0, none⟩ = some (.int .i64 f) ∧ w.cell? ⟨W.heap.size + 1 + 1, 0, none⟩ = some (.int .i64 (a : Int)) ∧ w.cell? ⟨W.heap.size + 1 + 1 + 1, 0, none⟩ = some (.int .i64 g) ∧ w.cell? ⟨W.heap.size + 1 + 1 + 1 + 1, 0, none⟩ = some (.int .i64 f)))
      (first | (with_reducible exact K0.out) | (with_reducible exact went_five q4 HN.out (keep_five hb2 (keep_five hb1 K0.out))) | (with_reducible exact keep_five hb2 (keep_five hb1 K0.out)) | (with_reducible exact keep_five hb1 K0.out))
      (first
        | (go_at_call 64; ((with_reducible refine (HH2.out w1 HB1.out).mono ?_); rintro e w2 ⟨rfl, hb2⟩); have HB2 := Lib.hid (HB1.out.trans (hb2.mono HB1.out.size)))
        | (go_at_call 64; ((with_reducible refine (HH1.out _ HB0.out).mono ?_); rintro e w1 ⟨rfl, hb1⟩); have HB1 := Lib.hid (HB0.out.trans (hb1.mono HB0.out.size)))
        | (go_at_call 41; ((with_reducible refine (HO.out _ HB2.out).mono ?_); rintro e w4 ⟨own4, L4, h4, q4, g4, x4, ev4, rfl, hev⟩)))
    go_wp2_with fail
    go_ret2
    have hr : RetOp (fun b => fn L f (setBit b a (fn L g b))) t0 own m lim L w2 (.returned (.tuple #[.int .i64 x4, ev4])) w4 := ⟨own4, L4, h4, q4, g4, x4, ev4, rfl, hev⟩
    exact hr.from_below HB2.out
  · have c3 : a < v := by omega
    obtain ⟨t, htop2, htt, ht0⟩ : ∃ t : Nat, topP L [f, g] = (t : Int) ∧ t < 12 ∧ t0 ≤ t := by
      have := varP_ge hR g
      refine ⟨(topP L [f, g]).toNat, ?_, ?_, ?_⟩ <;> rw [top_two] <;> omega
    have htp := htop2
    rw [top_two] at htp
    have tf : (t : Int) ≤ varP L f := by omega
    have tg : (t : Int) ≤ varP L g := by omega
    have htv : t < v := by omega
    have hn : ∃ (k : Nat) (y : Nd), L[k]? = some y ∧ y.1 = (t : Int) := by
      rcases (show varP L f = t ∨ varP L g = t by omega) with e | e
      · exact node_of_var e htt
      · exact node_of_var e htt
    have s6 := size_up s5 (.cells #[.int .i64 f, .int .i64 g] 3)
    have hbS : Below W.heap.size W _ := hbT.alloc (by rw [s5]; omega) (.cells #[.int .i64 f, .int .i64 g] 3)
    have b6 := Blk.new_ s5 3 #[.int .i64 f, .int .i64 g]
    have HT2 := Lib.hid (top_any (hM.below hbS) [f, g] (by simp) (g := W.heap.size + 1 + 1 + 1 + 1 + 1) (c := 2) (fun j x hx => by
      have hj : j = 0 ∨ j = 1 := by have := (List.getElem?_eq_some_iff.1 hx).1; simp at this; omega
      rcases hj with rfl | rfl
      · simp at hx; subst hx; exact b6.cell 0
      · simp at hx; subst hx; exact b6.cell 1))
    rw [htop2] at HT2
    simp only [List.length_cons, List.length_nil, Nat.zero_add, Nat.reduceAdd] at HT2
    have hbV := hbS.alloc (by rw [s6]; omega) (.cells #[.int .i64 (t : Int)] 3)
    have v1 := (((((((Blk.new_ s0 23 #[.pointer (some ⟨m, 0, none⟩)]).up (.cells #[.int .i64 f] 3)).up (.cells #[.int .i64 (v : Int)] 3)).up (.cells #[.int .i64 g] 3)).up (.cells #[.int .i64 f] 3)).up (.cells #[.int .i64 f, .int .i64 g] 3)).up (.cells #[.int .i64 (t : Int)] 3))
    have v2 := ((((((Blk.new_ s1 3 #[.int .i64 f]).up (.cells #[.int .i64 (v : Int)] 3)).up (.cells #[.int .i64 g] 3)).up (.cells #[.int .i64 f] 3)).up (.cells #[.int .i64 f, .int .i64 g] 3)).up (.cells #[.int .i64 (t : Int)] 3))
    have v3 := (((((Blk.new_ s2 3 #[.int .i64 (v : Int)]).up (.cells #[.int .i64 g] 3)).up (.cells #[.int .i64 f] 3)).up (.cells #[.int .i64 f, .int .i64 g] 3)).up (.cells #[.int .i64 (t : Int)] 3))
    have v4 := ((((Blk.new_ s3 3 #[.int .i64 g]).up (.cells #[.int .i64 f] 3)).up (.cells #[.int .i64 f, .int .i64 g] 3)).up (.cells #[.int .i64 (t : Int)] 3))
    have v5 := (((Blk.new_ s4 3 #[.int .i64 f]).up (.cells #[.int .i64 f, .int .i64 g] 3)).up (.cells #[.int .i64 (t : Int)] 3))
    have v6 := ((Blk.new_ s5 3 #[.int .i64 f, .int .i64 g]).up (.cells #[.int .i64 (t : Int)] 3))
    have v7 := (Blk.new_ s6 3 #[.int .i64 (t : Int)])
    have HG := Lib.hid ((grow_any (hM.below hbV) hl (k1 := -8 - (v : Int)) (k2 := f) (k3 := g) (v := t) (kf := 66) (caps := #[.pointer (some ⟨W.heap.size, 0, none⟩), .pointer (some ⟨W.heap.size + 1, 0, none⟩), .pointer (some ⟨W.heap.size + 1 + 1 + 1 + 1 + 1 + 1, 0, none⟩), .pointer (some ⟨W.heap.size + 1 + 1, 0, none⟩), .pointer (some ⟨W.heap.size + 1 + 1 + 1, 0, none⟩)])
      (G := fun on b => fn L (halfP L f t on) (setBit b v (fn L (halfP L g t on) b))) (by omega) ⟨by show -8 - (v : Int) < (L.length : Int); omega, hf, .inr hg⟩ htt hn
      (fun b => by
        rw [keyF_comp, half_fn hR hf (setBit b v (fn L g b)) (v := t), setBit_other b _ (by omega), half_fn hR hg b (v := t)])
      (fun on b c hbc => by
        show fn L _ _ = fn L _ _
        rw [halves_flip hR hA hg tg htt on hbc]
        exact halves_flip hR hA hf tf htt on fun i hi => by
          by_cases hiv : i = v
          · rw [hiv, setBit_at, setBit_at]
          · rw [setBit_other b _ hiv, setBit_other c _ hiv]; exact hbc i hi)
      (enters_of Try.func66 (by kernel_rfl) rfl)
      (fun on W1 own1 L1 h1 q1 hm1 => by
        obtain ⟨M, rfl⟩ := hm1
        have i1 : InB (L ++ M).length f := inB_mono hf (by simp)
        have i2 : InB (L ++ M).length g := inB_mono hg (by simp)
        refine (compose1_any h1 (hop t ht0 htv) htt i1 i2 (by rw [var_app M hf]; exact tf) (by rw [var_app M hg]; exact tg)
          (went_five q1 ⟨not _ (by omega), not _ (by omega), not _ (by omega), not _ (by omega), not _ (by omega)⟩ ⟨⟨v1.lt, v2.lt, v7.lt, v3.lt, v4.lt⟩, v1.cell 0, v2.cell 0, v7.cell 0, v3.cell 0, v4.cell 0⟩)
          ⟨q1.not (not _ (by omega)) v1.lt, q1.not (not _ (by omega)) v2.lt, q1.not (not _ (by omega)) v7.lt, q1.not (not _ (by omega)) v3.lt, q1.not (not _ (by omega)) v4.lt⟩ on).mono fun e w' hr => hr.fn_eq fun b => ?_
        rw [half_more M hf, half_more M hg, fn_more hR M (half_in hR hA hf _ _), fn_more hR M (half_in hR hA hg _ _)])).mono fun e w' hr => hr.from_below hbV)
    have HF : Hid (∀ b, keyF L (-8 - (v : Int), f, g) b = fn L f (setBit b v (fn L g b))) := Lib.hid (keyF_comp L f g v)
    have HV : Hid (t0 ≤ t) := Lib.hid ht0
    have c1' : ¬ (v : Int) < (a : Int) := by omega
    have c2' : ((a : Int) == (v : Int)) = false := by simp; omega
    clear hM hf hg vf vg hR hA ha htop htop2 htp not s0 s1 s2 s3 s4 s5 s6 hbT u1 u2 u3 u4 u5 hM5 hop hl hbS b6 hbV v1 v2 v3 v4 v5 v6 v7 c1 c2 c3 hn tf tg htv ht0
    go_enter Try.func46, Try.ntmps46
    go_wp2_with (first
      | (go_at_call 61; ((with_reducible refine HT.out.mono ?_); rintro e w1 ⟨rfl, rfl⟩))
      | (go_at_call 61; ((with_reducible refine HT2.out.mono ?_); rintro e w1 ⟨rfl, rfl⟩))
      | (go_at_call 62; ((with_reducible refine HG.out.mono ?_); rintro e w3 ⟨own3, L3, h3, q3, g3, x3, ev3, rfl, hev⟩)))
    go_ret2
    have hr : RetOp (keyF L (-8 - (v : Int), f, g)) t own m lim L W (.returned (.tuple #[.int .i64 x3, ev3])) w3 := ⟨own3, L3, h3, q3, g3, x3, ev3, rfl, hev⟩
    exact (hr.fn_eq HF.out).mono HV.out
theorem compose_all (hl : lim ≤ 65536) {v : Nat} (hv : v < 12) : ∀ n t0, 12 - t0 ≤ n → DoesC m lim v t0
  | 0, t0, h => compose_step hl hv fun t h1 h2 => absurd h2 (by omega)
  | n + 1, t0, h => compose_step hl hv fun t h1 h2 => compose_all hl hv n (t + 1) (by omega)
theorem compose_any (hl : lim ≤ 65536) {v : Nat} (hv : v < 12) : DoesC m lim v 0 := compose_all hl hv 12 0 (by omega)
end
end Go.Proofs.Ytdgjbbcalffbcaa
