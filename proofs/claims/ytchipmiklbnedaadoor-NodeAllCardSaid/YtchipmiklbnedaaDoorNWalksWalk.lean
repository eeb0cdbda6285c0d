/- The walk of NodeWalks. -/
import Derived.Test.YtchipmiklbnedaaDoorNRefAny
namespace Go.Proofs.YtchipmiklbnedaaDoor
open Go.RowKit
attribute [local go_sem ↓] Go.wp_at_zero Go.wp_at_succ

/-- The program's arena, and the document's, in a box of the law's. -/
def Both (w : World) (p lim : Nat) (L : List Nd) (rb : Nat) (A : Option Addr) (c : Nat) (M : List Nd) (W : World) : Prop :=
  ∃ own : Nat → Prop, Arena W own p lim L ∧ (∀ i, own i → w.heap.size ≤ i) ∧ Below w.heap.size w W ∧ Blk W rb 28 #[.int .i64 lim, .slice A M.length c] ∧ ¬ own rb ∧ w.heap.size ≤ rb ∧ RefA W A c M
section
variable {w W W1 : World} {p lim rb c : Nat} {A : Option Addr} {L M : List Nd}
theorem Both.liv (h : Both w p lim L rb A c M W) : Liv w p lim L W := by
  obtain ⟨own, h1, h2, h3, -⟩ := h
  exact ⟨own, h1, h2, h3⟩
theorem Both.box (h : Both w p lim L rb A c M W) : Blk W rb 28 #[.int .i64 lim, .slice A M.length c] := by
  obtain ⟨own, h1, h2, h3, h4, -⟩ := h
  exact h4
theorem Both.ref (h : Both w p lim L rb A c M W) : RefA W A c M := by
  obtain ⟨own, h1, h2, h3, h4, h5, h6, h7⟩ := h
  exact h7
theorem Both.cells (h : Both w p lim L rb A c M W) : (W.cell? ⟨rb, 0, none⟩ = some (.int .i64 lim) ∧ W.cell? ⟨rb, 1, none⟩ = some (.slice A M.length c)) ∧ W.frozen? ⟨rb, 0, none⟩ = false ∧ W.frozen? ⟨rb, 1, none⟩ = false ∧ rb < W.heap.size :=
  ⟨⟨h.box.cell 0, h.box.cell 1⟩, h.box.frozen 0, h.box.frozen 1, h.box.lt⟩
theorem Both.below (h : Both w p lim L rb A c M W) (hb : Below W.heap.size W W1) : Both w p lim L rb A c M W1 := by
  obtain ⟨own, h1, h2, h3, h4, h5, h6, h7⟩ := h
  exact ⟨own, h1.below hb, h2, h3.trans (hb.mono h3.size), h4.below hb h4.lt, h5, h6, h7.below hb⟩
theorem both_start (h : Liv w p lim L W) : Both w p lim L W.heap.size none 0 [] (W.alloc (.cells #[.int .i64 lim, .slice none 0 0] 28)) := by
  have hb := (Below.refl W.heap.size W).alloc (Nat.le_refl _) (.cells #[.int .i64 lim, .slice none 0 0] 28)
  obtain ⟨own, h1, h2, h3⟩ := h
  exact ⟨own, h1.below hb, h2, h3.trans (hb.mono h3.size), Blk.new _ _ _, fun h => by have := h1.old _ h; omega, h3.size, refA_none _⟩
/-- The document's next arena is stored into the box. -/
theorem Both.next {A' : Option Addr} {c' : Nat} {M' : List Nd} (h : Both w p lim L rb A c M W) (hr : RefA W A' c' M') : Both w p lim L rb A' c' M' ((W.setCell ⟨rb, 0, none⟩ (.int .i64 lim)).setCell ⟨rb, 1, none⟩ (.slice A' M'.length c')) := by
  obtain ⟨own, h1, h2, h3, h4, h5, h6, h7⟩ := h
  have ho : Only (fun i => i = rb) W ((W.setCell ⟨rb, 0, none⟩ (.int .i64 lim)).setCell ⟨rb, 1, none⟩ (.slice A' M'.length c')) :=
    (Only.of_grown (grown_set W ⟨rb, 0, none⟩ _) (own := fun i => i = rb) fun r e => by simpa using e.symm).trans (Only.of_grown (grown_set _ ⟨rb, 1, none⟩ _) (own := fun i => i = rb) fun r e => by simpa using e.symm) fun _ h => .inl h
  have hne := own_blk_ne hr.1 h4 (by decide)
  have hbx := (h4.set_ 0 (.int .i64 lim)).set_ 1 (.slice A' M'.length c')
  refine ⟨own, h1.only ho (fun i hi e => h5 (e ▸ hi)), h2, (h3.setCell h6 _).setCell h6 _, by simpa using hbx, h5, h6, ⟨ho.row hr.1 (fun g e h => hne (h ▸ e)), hr.2⟩⟩
theorem both_arena (h : Both w p lim L rb A c M W) : ∃ own, Arena W own p lim L := by
  obtain ⟨own, h1, -⟩ := h
  exact ⟨own, h1⟩
theorem liv_walk {r : Int} {b : Nat} {y : Int} (hy : endP L b r = y) (hb : b < 18446744073709551616) (h : Liv w p lim L W) : Calls Tryd.prog 28 #[.pointer (some ⟨p, 0, none⟩), .int .i64 r, .int .u64 (b : Int)] W fun e w' => e = .returned (.int .i64 y) ∧ Below W.heap.size W w' := by
  obtain ⟨own, hA, -⟩ := h
  rw [← hy]
  exact arena_walk hA hb
end
set_option maxRecDepth 100000 in
set_option maxHeartbeats 6400000 in
theorem walks_walk (f : Nat → Nd) (A : Option Addr) (m c : Nat) (r : Int) (b : Nat) (w : World) (he : ErrTy w) (ht : Tabs w) (_ : m ≤ 9223372036854775807) (_ : m ≤ c) (hO : Ops w A m f) (_ : -9223372036854775808 ≤ r ∧ r ≤ 9223372036854775807) (hbb : b < 18446744073709551616) :
    Calls Tryd.prog 4 #[.slice A m c, .int .i64 r, .int .u64 (b : Int)] w fun e w' => e = .returned (.bool true) ∧ Below w.heap.size w w' := by
  have HE := Lib.hid he
  have HT := Lib.hid ht
  have HBB := Lib.hid hbb
  have ne := ne_nil
  have nn : ∀ w, (binOp .eql 23 (.pointer none) (.pointer none)).run Tryd.prog w = .ok (.bool true) w := fun _ => by kernel_rfl
  clear he ht hbb
  by_cases hm : 60 < m
  · have HF := Lib.hid (build_far_named (n := 100) (A := A) (c := c) (by omega) hm w)
    clear hO
    go_enter Tryd.func4, Tryd.ntmps4
    go_wp2_with (first
      | (go_at_call 27; ((with_reducible refine HF.out.mono ?_); rintro e w1 ⟨rfl, hb1⟩); have HB1 := Lib.hid hb1; clear hb1)
      | (go_at_call 10; ((with_reducible refine (alive_any _ (HE.out.below HB1.out) (HT.out.stays HB1.out)).mono ?_); rintro e w2 ⟨rfl, hb2⟩); have HB2 := Lib.hid (HB1.out.trans (hb2.mono HB1.out.size)); clear hb2))
    go_ret
    exact ⟨rfl, HB2.out⟩
  · have HF := Lib.hid (build_named (n := 100) (lim := 100) (c := c) rfl (by omega) (by omega) w hO)
    have HO := Lib.hid hO
    obtain ⟨L, hL⟩ : ∃ L, scr 100 [] f m = L := ⟨_, rfl⟩
    have HL := Lib.hid hL
    rw [hL] at HF
    obtain ⟨x, hx⟩ : ∃ x, endP L b r = x := ⟨_, rfl⟩
    have HX := Lib.hid hx
    have HRN : Hid (∀ W, Calls Tryd.prog 11 #[.int .i64 100] W (RetRNew 100 W)) := Lib.hid fun W => rnew_any rfl W
    clear hO hL hx
    go_enter Tryd.func4, Tryd.ntmps4
    go_wp2_with (first
      | (go_at_call 27; ((with_reducible refine HF.out.mono ?_); rintro e w1 ⟨p, v, rfl, hb1⟩); have H1 := Lib.hid (Liv.of_bld hb1); clear hb1)
      | (go_at_call 11; ((with_reducible refine (HRN.out _).mono ?_); rintro e w2 ⟨rfl, hb2⟩); have H2 := Lib.hid (both_start (H1.out.below hb2)); clear hb2))
    obtain ⟨rb, hrb⟩ : ∃ rb, w2.heap.size = rb := ⟨_, rfl⟩
    rw [hrb] at H2 ⊢
    clear hrb
    go_loopg [32] m (fun gk t32 wr => ∃ (i : Nat) (A' : Option Addr) (c' : Nat), i + gk = m ∧ t32 = .int .i64 (i : Int) ∧ Both w p 100 L rb A' c' (scr 100 [] f i) wr)
    case atStart => exact ⟨0, none, 0, by omega, rfl, H2.out⟩
    case round =>
      rename Nat => g0
      obtain ⟨i, A', c', hi, rfl, hB⟩ := hrel
      have HB := Lib.hid hB
      have HI := Lib.hid hi
      obtain ⟨⟨c0, c1⟩, f0, f1, hlt⟩ := hB.cells
      clear hB hi
      by_cases him : i < m
      · obtain ⟨b', off, x1, x2, x3, hA, hblt, hf, k0, k1, k2⟩ := (HO.out.below HB.out.liv.low).named him
        obtain ⟨L', rr, cc, hm'⟩ : ∃ L' r cc, mkP 100 (scr 100 [] f i) x1 x2 x3 = (L', r, cc) := ⟨_, _, _, rfl⟩
        have HS : Hid (scr 100 [] f (i + 1) = L') := Lib.hid (by show (mkP _ _ _ _ _).1 = _; rw [hf, hm'])
        have hrt : RightL (scr 100 [] f i) := scr_right right_none f i
        have hfw : (scr 100 [] f i).length + 1 ≤ 4000 := by have := scr_len 100 [] f i; simp at this; omega
        obtain ⟨M, hM⟩ : ∃ M, scr 100 [] f i = M := ⟨_, rfl⟩
        rw [hM] at HB hm' hrt hfw c1
        have HMk := Lib.hid hm'
        have HRt := Lib.hid hrt
        have HFw := Lib.hid hfw
        have hbo := (Below.refl wr.heap.size wr).alloc (Nat.le_refl _) (.cells #[.int .i64 x1, .int .i64 x2, .int .i64 x3] 31)
        have HBx := Lib.hid (HB.out.below hbo)
        have HRx := Lib.hid HBx.out.ref
        have HC : Hid (Calls Tryd.prog 13 #[.agg #[.int .i64 100, .slice A' M.length c'], .int .i64 x1, .int .i64 x2, .int .i64 x3] (wr.alloc (.cells #[.int .i64 x1, .int .i64 x2, .int .i64 x3] 31)) (RetRMk 100 L' rr cc (wr.alloc (.cells #[.int .i64 x1, .int .i64 x2, .int .i64 x3] 31)))) := Lib.hid (rmk_any HMk.out HRx.out HRt.out HFw.out)
        subst hA
        clear hf hm' hrt hfw hM hbo
        go_wp2_with (first
          | (go_at_call 13; ((with_reducible refine HC.out.mono ?_); rintro e w3 ⟨A2, c2, rfl, hr3, hb3⟩); have HB3 := Lib.hid (HBx.out.below hb3); have HR3 := Lib.hid hr3; obtain ⟨⟨d0, d1⟩, d2, d3, d4⟩ := (HBx.out.below hb3).cells; clear hr3 hb3))
        have hi := HI.out
        go_roundg (g0 - 1)
        case measure => omega
        case rel => exact ⟨i + 1, A2, c2, by omega, by simp, by rw [HS.out]; exact (HB3.out.next HR3.out).below ((Below.refl _ _).alloc (Nat.le_refl _) _)⟩
      · have hie : i = m := by have := HI.out; omega
        subst hie
        rw [HL.out] at HB c1
        have HBl := Lib.hid HB.out.liv
        have hbb := HBB.out
        have hright := HBl.out.right
        have hend := endP_end hright b r
        rw [HX.out] at hend
        have HRt := Lib.hid hright
        clear hright
        have HW : Hid (∀ W, RefA W A' c' L → Calls Tryd.prog 29 #[.agg #[.int .i64 100, .slice A' L.length c'], .int .i64 r, .int .u64 (b : Int)] W (RetRB (.int .i64 x) W)) := Lib.hid fun W h => rwalk_any HX.out h HRt.out HBB.out
        obtain ⟨q2, hq2⟩ : ∃ q2, L.length = q2 := ⟨_, rfl⟩
        have HQ2 := Lib.hid hq2
        have hq2b : q2 ≤ 4000 := by rw [← hq2]; exact HBl.out.few
        rw [hq2] at hend
        clear hq2
        by_cases hx0 : x < 0
        · have hg : (decide (x < 0)) = true := decide_eq_true hx0
          clear hend
          go_wp2_with (first
            | (go_at_call 28; ((with_reducible refine (liv_walk HX.out HBB.out HBl.out).mono ?_); rintro e w4 ⟨rfl, hb4⟩); have H4 := Lib.hid (HB.out.below hb4); clear hb4)
            | (go_at_call 10; ((with_reducible refine (alive_any _ (HE.out.below H4.out.liv.low) (HT.out.stays H4.out.liv.low)).mono ?_); rintro e w5 ⟨rfl, hb5⟩); have H5 := Lib.hid (H4.out.below hb5); have H5l := Lib.hid H5.out.liv; obtain ⟨⟨d0, d1⟩, d2, d3, d4⟩ := H5.out.cells; clear hb5)
            | (go_at_call 29; ((with_reducible refine (HW.out _ H5.out.ref).mono ?_); rintro e w6 ⟨rfl, hb6⟩); have H6 := Lib.hid (H5.out.below hb6); have H6l := Lib.hid H6.out.liv; clear hb6))
          go_ret
          exact ⟨rfl, H6.out.liv.low⟩
        · have hg : (q2 : Int) ≤ x := by omega
          clear hend
          go_wp2_with (first
            | (go_at_call 28; ((with_reducible refine (liv_walk HX.out HBB.out HBl.out).mono ?_); rintro e w4 ⟨rfl, hb4⟩); have H4 := Lib.hid (HB.out.below hb4); clear hb4)
            | (go_at_call 10; ((with_reducible refine (alive_any _ (HE.out.below H4.out.liv.low) (HT.out.stays H4.out.liv.low)).mono ?_); rintro e w5 ⟨rfl, hb5⟩); have H5 := Lib.hid (H4.out.below hb5); have H5l := Lib.hid H5.out.liv; obtain ⟨⟨d0, d1⟩, d2, d3, d4⟩ := H5.out.cells; clear hb5)
            | (go_at_call 29; ((with_reducible refine (HW.out _ H5.out.ref).mono ?_); rintro e w6 ⟨rfl, hb6⟩); have H6 := Lib.hid (H5.out.below hb6); have H6l := Lib.hid H6.out.liv; clear hb6)
            | (go_at_call 15; ((with_reducible refine (liv_len_named HQ2.out H6l.out).mono ?_); rintro e w9 ⟨rfl, rfl⟩)))
          go_ret
          exact ⟨rfl, H6.out.liv.low⟩
end Go.Proofs.YtchipmiklbnedaaDoor
