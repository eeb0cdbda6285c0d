/- The walk of NodeRight. -/
import Derived.Test.YtchipmiklbnedaaDoorNArgs
namespace Go.Proofs.YtchipmiklbnedaaDoor
open Go.RowKit
attribute [local go_sem ↓] Go.wp_at_zero Go.wp_at_succ

/-- An arena lives above what there was. -/
def Liv (w : World) (p lim : Nat) (L : List Nd) (W : World) : Prop := ∃ own : Nat → Prop, Arena W own p lim L ∧ (∀ i, own i → w.heap.size ≤ i) ∧ Below w.heap.size w W
section
variable {w W W1 : World} {p lim : Nat} {L : List Nd} {R : List Int} {v : Value}
theorem Liv.of_bld (h : Bld w p lim L R v W) : Liv w p lim L W := by
  obtain ⟨own, hA, hw, hb, -⟩ := h
  exact ⟨own, hA, hw, hb⟩
theorem Liv.low (h : Liv w p lim L W) : Below w.heap.size w W := by
  obtain ⟨own, -, -, hb⟩ := h
  exact hb
theorem Liv.right (h : Liv w p lim L W) : RightL L := by
  obtain ⟨own, hA, -⟩ := h
  exact hA.right
theorem Liv.few (h : Liv w p lim L W) : L.length ≤ 4000 := by
  obtain ⟨own, hA, -⟩ := h
  exact hA.few
theorem Liv.below (h : Liv w p lim L W) (hb : Below W.heap.size W W1) : Liv w p lim L W1 := by
  obtain ⟨own, hA, hw, hbw⟩ := h
  exact ⟨own, hA.below hb, hw, hbw.trans (hb.mono hbw.size)⟩
theorem liv_len (h : Liv w p lim L W) : Calls Tryd.prog 15 #[.pointer (some ⟨p, 0, none⟩)] W (RetW (.int .i64 L.length) W) := by
  obtain ⟨own, hA, -⟩ := h
  exact arena_len hA
theorem liv_var {r y : Int} (hy : varP L r = y) (h : Liv w p lim L W) : Calls Tryd.prog 18 #[.pointer (some ⟨p, 0, none⟩), .int .i64 r] W (RetW (.int .i64 y) W) := by
  obtain ⟨own, hA, -⟩ := h
  rw [← hy]
  exact arena_var hA
theorem liv_get {k : Nat} {x1 x2 x3 : Int} (hx : L[k]? = some (x1, x2, x3)) (h : Liv w p lim L W) : Calls Tryd.prog 17 #[.pointer (some ⟨p, 0, none⟩), .int .i64 (k : Int)] W fun e w' => e = .returned (.tuple #[.agg #[.int .i64 x1, .int .i64 x2, .int .i64 x3], .bool true]) ∧ Liv w p lim L w' ∧ Below W.heap.size W w' := by
  obtain ⟨own, hA, hw, hb⟩ := h
  obtain ⟨P, T, An, Ap, cn, cp, hR, -⟩ := id hA
  exact (get_some hR hx).mono fun _ _ ⟨h1, h2⟩ => ⟨h1, Liv.below ⟨own, hA, hw, hb⟩ h2, h2⟩
end
theorem node_named {L : List Nd} {k : Nat} (hk : k < L.length) : ∃ x1 x2 x3, L[k]? = some (x1, x2, x3) := ⟨_, _, _, List.getElem?_eq_getElem hk⟩
theorem keep_box3 {w W W1 : World} {p lim q : Nat} {L : List Nd} {x y z : Option Value} (hb : Below W.heap.size W W1) (h : Liv w p lim L W ∧ q < W.heap.size ∧ W.cell? ⟨q, 0, none⟩ = x ∧ W.cell? ⟨q, 1, none⟩ = y ∧ W.cell? ⟨q, 2, none⟩ = z) :
    Liv w p lim L W1 ∧ q < W1.heap.size ∧ W1.cell? ⟨q, 0, none⟩ = x ∧ W1.cell? ⟨q, 1, none⟩ = y ∧ W1.cell? ⟨q, 2, none⟩ = z :=
  ⟨h.1.below hb, Nat.lt_of_lt_of_le h.2.1 hb.size, (hb.cell (p := ⟨q, 0, none⟩) h.2.1).trans h.2.2.1, (hb.cell (p := ⟨q, 1, none⟩) h.2.1).trans h.2.2.2.1, (hb.cell (p := ⟨q, 2, none⟩) h.2.1).trans h.2.2.2.2⟩
theorem build_far_named {n : Int} (h : -9223372036854775808 ≤ n ∧ n ≤ 9223372036854775807) {A : Option Addr} {m c : Nat} (hm : 60 < m) (w : World) : Calls Tryd.prog 27 #[.int .i64 n, .slice A m c] w (RetFar w) := build_far n h hm w
theorem build_named {n : Int} {lim : Nat} (hl : n.toNat = lim) (h : -9223372036854775808 ≤ n ∧ n ≤ 9223372036854775807) {A : Option Addr} {m c : Nat} {f : Nat → Nd} (hm : m ≤ 60) (w : World) (hO : Ops w A m f) :
    Calls Tryd.prog 27 #[.int .i64 n, .slice A m c] w (RetBuild lim (scr lim [] f m) (refsP lim [] f m) w) := by
  rw [← hl]; exact build_any n h hm w hO
attribute [local go_sem ↓] eqN eqgN in
set_option maxRecDepth 100000 in
set_option maxHeartbeats 6400000 in
theorem right_walk (n : Int) (f : Nat → Nd) (A : Option Addr) (m c : Nat) (w : World) (he : ErrTy w) (ht : Tabs w) (hn : -9223372036854775808 ≤ n ∧ n ≤ 9223372036854775807) (_ : m ≤ 9223372036854775807) (_ : m ≤ c) (hO : Ops w A m f) :
    Calls Tryd.prog 6 #[.int .i64 n, .slice A m c] w fun e w' => e = .returned (.bool true) ∧ Below w.heap.size w w' := by
  have HE := Lib.hid he
  have HT := Lib.hid ht
  have ne := ne_nil
  clear he ht
  by_cases hm : 60 < m
  · have HF := Lib.hid (build_far_named (A := A) (c := c) hn hm w)
    have nn : ∀ w, (binOp .eql 23 (.pointer none) (.pointer none)).run Tryd.prog w = .ok (.bool true) w := fun _ => by kernel_rfl
    clear hn hO
    go_enter Tryd.func6, Tryd.ntmps6
    go_wp2_with (first
      | (go_at_call 27; ((with_reducible refine HF.out.mono ?_); rintro e w1 ⟨rfl, hb1⟩); have HB1 := Lib.hid hb1; clear hb1)
      | (go_at_call 10; ((with_reducible refine (alive_any _ (HE.out.below HB1.out) (HT.out.stays HB1.out)).mono ?_); rintro e w2 ⟨rfl, hb2⟩); have HB2 := Lib.hid (HB1.out.trans (hb2.mono HB1.out.size)); clear hb2))
    go_ret
    exact ⟨rfl, HB2.out⟩
  · obtain ⟨lim, hlim⟩ : ∃ lim, n.toNat = lim := ⟨_, rfl⟩
    have HF := Lib.hid (build_named (c := c) hlim hn (by omega) w hO)
    have hmax : max n 0 = (lim : Int) := by omega
    have hl2 := scr_lim (lim := lim) (L := []) (by simp) f m
    obtain ⟨L, hL⟩ : ∃ L, scr lim [] f m = L := ⟨_, rfl⟩
    rw [hL] at HF hl2
    clear hn hO hlim hL
    go_enter Tryd.func6, Tryd.ntmps6
    go_wp2_with (first
      | (go_at_call 27; ((with_reducible refine HF.out.mono ?_); rintro e w1 ⟨p, v, rfl, hb1⟩); have H1 := Lib.hid (Liv.of_bld hb1); clear hb1)
      | (go_at_call 15; ((with_reducible refine (liv_len H1.out).mono ?_); rintro e w9 ⟨rfl, rfl⟩)))
    have HR := Lib.hid H1.out.right
    have hfew := H1.out.few
    go_loopg [34] L.length (fun gk t34 wr => ∃ i : Nat, i + gk = L.length ∧ t34 = .int .i64 (i : Int) ∧ Liv w p lim L wr)
    case atStart => exact ⟨0, by omega, rfl, H1.out⟩
    case round =>
      rename Nat => g0
      obtain ⟨i, hi, rfl, hL⟩ := hrel
      have HL := Lib.hid hL
      have HI := Lib.hid hi
      clear hL hi
      by_cases him : i < L.length
      · obtain ⟨x1, x2, x3, hx⟩ := node_named him
        obtain ⟨⟨hv0, hv12⟩, hne, ⟨-, hlo⟩, -, hhi⟩ := HR.out.1 i _ hx
        dsimp only at hv0 hv12 hne hlo hhi
        obtain ⟨y2, hy2⟩ : ∃ y, varP L x2 = y := ⟨_, rfl⟩
        obtain ⟨y3, hy3⟩ : ∃ y, varP L x3 = y := ⟨_, rfl⟩
        rw [hy2] at hlo
        rw [hy3] at hhi
        have HY2 := Lib.hid hy2
        have HY3 := Lib.hid hy3
        have HX := Lib.hid hx
        have e1 : (x2 == x3) = false := by simpa using hne
        have e2 : decide (x2 = x3) = false := decide_eq_false hne
        have HNE := Lib.hid hne
        have e3 : decide (y2 ≤ x1) = false := decide_eq_false (by omega)
        have e4 : decide (y3 ≤ x1) = false := decide_eq_false (by omega)
        have e5 : decide (x1 < 0) = false := decide_eq_false (by omega)
        have e6 : decide (12 ≤ x1) = false := decide_eq_false (by omega)
        clear hy2 hy3 hx hne
        go_wp2_with (first
          | (go_at_call 17; ((with_reducible refine (liv_get HX.out HL.out).mono ?_); rintro e w2 ⟨rfl, h2, hb2⟩); have H2 := Lib.hid h2; clear h2 hb2))
        obtain ⟨wo, hwo⟩ : ∃ wo, wo = w2 := ⟨_, rfl⟩
        subst hwo
        have HB := Lib.hid (Blk.new wo 42 #[.int .i64 x1, .int .i64 x2, .int .i64 x3])
        have K0 : Hid (Liv w p lim L (wo.alloc (.cells #[.int .i64 x1, .int .i64 x2, .int .i64 x3] 42)).drew ∧ wo.heap.size < (wo.alloc (.cells #[.int .i64 x1, .int .i64 x2, .int .i64 x3] 42)).drew.heap.size ∧ (wo.alloc (.cells #[.int .i64 x1, .int .i64 x2, .int .i64 x3] 42)).drew.cell? ⟨wo.heap.size, 0, none⟩ = some (.int .i64 x1) ∧ (wo.alloc (.cells #[.int .i64 x1, .int .i64 x2, .int .i64 x3] 42)).drew.cell? ⟨wo.heap.size, 1, none⟩ = some (.int .i64 x2) ∧ (wo.alloc (.cells #[.int .i64 x1, .int .i64 x2, .int .i64 x3] 42)).drew.cell? ⟨wo.heap.size, 2, none⟩ = some (.int .i64 x3)) := Lib.hid ⟨H2.out.below (((Below.refl wo.heap.size wo).alloc (Nat.le_refl _) _).drew), HB.out.lt, HB.out.cell 0, HB.out.cell 1, HB.out.cell 2⟩
        go_region_held3 (fun w' => Liv w p lim L w' ∧ wo.heap.size < w'.heap.size ∧ w'.cell? ⟨wo.heap.size, 0, none⟩ = some (.int .i64 x1) ∧ w'.cell? ⟨wo.heap.size, 1, none⟩ = some (.int .i64 x2) ∧ w'.cell? ⟨wo.heap.size, 2, none⟩ = some (.int .i64 x3))
          (first | (with_reducible exact K0.out))
          (first
            | (go_at_call 18; ((with_reducible refine (liv_var HY2.out K0.out.1).mono ?_); rintro e w9 ⟨rfl, rfl⟩))
            | (go_at_call 18; ((with_reducible refine (liv_var HY3.out K0.out.1).mono ?_); rintro e w9 ⟨rfl, rfl⟩)))
        go_wp2_with fail
        have hbV : Below wo.heap.size wo ((wo.alloc (.cells #[.int .i64 x1, .int .i64 x2, .int .i64 x3] 42)).drew) := ((Below.refl wo.heap.size wo).alloc (Nat.le_refl _) _).drew
        obtain ⟨V, hV⟩ : ∃ V, V = (wo.alloc (.cells #[.int .i64 x1, .int .i64 x2, .int .i64 x3] 42)).drew := ⟨_, rfl⟩
        have HBV : Hid (Blk V wo.heap.size 42 #[.int .i64 x1, .int .i64 x2, .int .i64 x3]) := Lib.hid (by rw [hV]; exact HB.out)
        have HLV : Hid (Liv w p lim L V) := Lib.hid (by rw [hV]; exact K0.out.1)
        rw [← hV]
        clear hV hbV e1 e2 e3 e4 e5 e6 K0
        go_loopg [81] i (fun gj t81 wr => ∃ k : Nat, k + gj = i ∧ t81 = .int .i64 (k : Int) ∧ Liv w p lim L wr ∧ Below V.heap.size V wr)
        case atStart => exact ⟨0, by omega, rfl, HLV.out, Below.refl _ _⟩
        case round =>
          rename Nat => g1
          obtain ⟨k, hk, rfl, hLk, hbk⟩ := hrel
          have HLk := Lib.hid hLk
          have HBk := Lib.hid hbk
          have HK := Lib.hid hk
          clear hLk hbk hk
          by_cases hki : k < i
          · obtain ⟨z1, z2, z3, hz⟩ := node_named (show k < L.length by omega)
            have hs : sameN z1 z2 z3 x1 x2 x3 = false := by
              have := sameN_iff (z1, z2, z3) (x1, x2, x3)
              dsimp only at this
              rw [this]
              refine decide_eq_false fun e => ?_
              have := HR.out.2 k i _ hz (by rw [e]; exact HX.out)
              omega
            have HZ := Lib.hid hz
            clear hz
            go_wp2_with (first
              | (go_at_call 17; ((with_reducible refine (liv_get HZ.out HLk.out).mono ?_); rintro e w3 ⟨rfl, h3, hb3⟩); have H3 := Lib.hid h3; have HB3 := Lib.hid hb3; have hB3 := HBV.out.below (HBk.out.trans (hb3.mono HBk.out.size)) HBV.out.lt; have b0 : w3.cell? ⟨wo.heap.size, 0, none⟩ = some (.int .i64 x1) := hB3.cell 0; have b1 : w3.cell? ⟨wo.heap.size, 1, none⟩ = some (.int .i64 x2) := hB3.cell 1; have b2 : w3.cell? ⟨wo.heap.size, 2, none⟩ = some (.int .i64 x3) := hB3.cell 2; have hlt3 := hB3.lt; clear h3 hb3 hB3))
            have hk := HK.out
            go_roundg (g1 - 1)
            case measure => omega
            case rel => exact ⟨k + 1, by omega, by simp, H3.out.below ((Below.refl _ _).alloc (Nat.le_refl _) _), (HBk.out.trans (HB3.out.mono HBk.out.size)).trans (((Below.refl w3.heap.size w3).alloc (Nat.le_refl _) _).mono (Nat.le_trans HBk.out.size HB3.out.size))⟩
          · have hke : k = i := by have := HK.out; omega
            subst hke
            go_wp2_with fail
            have hi := HI.out
            go_roundg (g0 - 1)
            case measure => omega
            case rel => exact ⟨k + 1, by omega, by simp, HLk.out⟩
      · have hie : i = L.length := by have := HI.out; omega
        subst hie
        go_wp2_with (first
          | (go_at_call 10; ((with_reducible refine (alive_any _ (HE.out.below HL.out.low) (HT.out.stays HL.out.low)).mono ?_); rintro e w2 ⟨rfl, hb2⟩); have HB2 := Lib.hid (HL.out.low.trans (hb2.mono HL.out.low.size)); clear hb2))
        go_ret
        exact ⟨rfl, HB2.out⟩
end Go.Proofs.YtchipmiklbnedaaDoor
