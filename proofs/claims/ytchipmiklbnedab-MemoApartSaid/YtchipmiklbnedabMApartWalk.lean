/- The walk of MemoApart. -/
import Derived.Test.YtchipmiklbnedabMLastWalk
namespace Go.Proofs.Ytchipmiklbnedab
open Go.RowKit
attribute [local go_sem ↓] Go.wp_at_zero Go.wp_at_succ

/-- The two boxes: of what is put, and of the key that is asked. -/
def TwoBox (w : World) (a1 a2 a3 a4 b1 b2 b3 : Int) (t7 t8 : Value) (W : World) : Prop := ∃ x y : Nat, t7 = .pointer (some ⟨x, 0, none⟩) ∧ t8 = .pointer (some ⟨y, 0, none⟩) ∧ Blk W x 30 #[.int .i64 a1, .int .i64 a2, .int .i64 a3, .int .i64 a4] ∧ Blk W y 28 #[.int .i64 b1, .int .i64 b2, .int .i64 b3] ∧ Below w.heap.size w W
theorem two_new (V : World) (t u : TypeId) (xs ys : Array Value) : Blk ((V.alloc (.cells xs t)).alloc (.cells ys u)).drew V.heap.size t xs ∧ Blk ((V.alloc (.cells xs t)).alloc (.cells ys u)).drew (V.heap.size + 1) u ys := by
  constructor
  · exact (Below.heap_alloc _ _ _ (by simp)).trans (Blk.new V t xs)
  · have := Blk.new (V.alloc (.cells xs t)) u ys
    rw [World.size_alloc] at this
    exact this
theorem keep_two_box {w W W1 : World} {p g n c x y : Nat} {T : Nat → Pl} {u0 u1 u2 v0 v1 v2 : Option Value} (hb : Below W.heap.size W W1) (h : Lives w p g n c T W ∧ x < W.heap.size ∧ y < W.heap.size ∧ W.cell? ⟨x, 0, none⟩ = u0 ∧ W.cell? ⟨x, 1, none⟩ = u1 ∧ W.cell? ⟨x, 2, none⟩ = u2 ∧ W.cell? ⟨y, 0, none⟩ = v0 ∧ W.cell? ⟨y, 1, none⟩ = v1 ∧ W.cell? ⟨y, 2, none⟩ = v2) :
    Lives w p g n c T W1 ∧ x < W1.heap.size ∧ y < W1.heap.size ∧ W1.cell? ⟨x, 0, none⟩ = u0 ∧ W1.cell? ⟨x, 1, none⟩ = u1 ∧ W1.cell? ⟨x, 2, none⟩ = u2 ∧ W1.cell? ⟨y, 0, none⟩ = v0 ∧ W1.cell? ⟨y, 1, none⟩ = v1 ∧ W1.cell? ⟨y, 2, none⟩ = v2 := by
  obtain ⟨h0, h1, h2, k0, k1, k2, k3, k4, k5⟩ := h
  have hs := hb.size
  exact ⟨h0.below hb, by omega, by omega, (hb.cell (p := ⟨x, _, none⟩) h1).trans k0, (hb.cell (p := ⟨x, _, none⟩) h1).trans k1, (hb.cell (p := ⟨x, _, none⟩) h1).trans k2, (hb.cell (p := ⟨y, _, none⟩) h2).trans k3, (hb.cell (p := ⟨y, _, none⟩) h2).trans k4, (hb.cell (p := ⟨y, _, none⟩) h2).trans k5⟩
theorem slot_named {w W : World} {p g n c s : Nat} {T : Nat → Pl} {a b d : Int} (hs : slotP n (a, b, d) = s) (h : Lives w p g n c T W) : Calls Try.prog 16 #[.pointer (some ⟨p, 0, none⟩), .agg #[.int .i64 a, .int .i64 b, .int .i64 d]] W (RetB (.int .i64 (s : Nat)) W) := by
  rw [← hs]; exact slot_any a b d h.1.c0 h.1.room.1 h.1.room.2
set_option maxRecDepth 100000 in
set_option maxHeartbeats 6400000 in
theorem apart_walk (k : Int) (f : Nat → Ky × Int) (A : Option Addr) (m c : Nat) (a1 a2 a3 a4 b1 b2 b3 b4 : Int) (w : World) (_ : m ≤ 9223372036854775807) (hmc : m ≤ c) (hP : Puts w A m f) :
    Calls Try.prog 5 #[.int .i64 k, .slice A m c, .agg #[.int .i64 a1, .int .i64 a2, .int .i64 a3, .int .i64 a4, .int .i64 b1, .int .i64 b2, .int .i64 b3, .int .i64 b4]] w (RetB (.bool true) w) := by
  obtain ⟨n, hn⟩ : ∃ n, sizeP k = n := ⟨_, rfl⟩
  have HN := Lib.hid (new_named hn)
  have HP := Lib.hid hP
  have ne := ne_nil
  have nn : ∀ (b : Nat) (w : World), (binOp .neq 25 (.pointer (some ⟨b, 0, none⟩)) (.pointer none)).run Try.prog w = .ok (.bool true) w := fun _ _ => by kernel_rfl
  clear hn hP
  go_enter Try.func5, Try.ntmps5
  go_upto_region 1 with fail
  go_cut [7, 8] (fun t7 t8 wx => TwoBox w a1 a2 a3 a4 b1 b2 b3 t7 t8 wx)
  case first =>
    have hb := (Below.refl w.heap.size w).alloc (Nat.le_refl _) (.cells #[.int .i64 a1, .int .i64 a2, .int .i64 a3, .int .i64 a4, .int .i64 b1, .int .i64 b2, .int .i64 b3, .int .i64 b4] 42)
    have h1 := two_new (w.alloc (.cells #[.int .i64 a1, .int .i64 a2, .int .i64 a3, .int .i64 a4, .int .i64 b1, .int .i64 b2, .int .i64 b3, .int .i64 b4] 42)) 30 28 #[.int .i64 a1, .int .i64 a2, .int .i64 a3, .int .i64 a4] #[.int .i64 b1, .int .i64 b2, .int .i64 b3]
    have h2 := two_new (w.alloc (.cells #[.int .i64 a1, .int .i64 a2, .int .i64 a3, .int .i64 a4, .int .i64 b1, .int .i64 b2, .int .i64 b3, .int .i64 b4] 42)) 28 30 #[.int .i64 b1, .int .i64 b2, .int .i64 b3] #[.int .i64 a1, .int .i64 a2, .int .i64 a3, .int .i64 a4]
    rw [World.size_alloc] at h1 h2
    have H1 := Lib.hid (And.intro h1.1 (And.intro h1.2 (((hb.alloc (by simp) (.cells #[.int .i64 a1, .int .i64 a2, .int .i64 a3, .int .i64 a4] 30)).alloc (by simp; omega) (.cells #[.int .i64 b1, .int .i64 b2, .int .i64 b3] 28)).drew)))
    have H2 := Lib.hid (And.intro h2.2 (And.intro h2.1 (((hb.alloc (by simp) (.cells #[.int .i64 b1, .int .i64 b2, .int .i64 b3] 28)).alloc (by simp; omega) (.cells #[.int .i64 a1, .int .i64 a2, .int .i64 a3, .int .i64 a4] 30)).drew)))
    clear hb h1 h2
    go_region
    · go_wp2_with fail
      go_meet
      exact ⟨_, _, rfl, rfl, H1.out⟩
    · go_wp2_with fail
      go_meet
      exact ⟨_, _, rfl, rfl, H2.out⟩
  case rest =>
    obtain ⟨x, y, rfl, rfl, hX, hY, hW⟩ := hcut
    have HX := Lib.hid hX
    have HY := Lib.hid hY
    have HW := Lib.hid hW
    clear hX hY hW
    by_cases hl : 200 < m
    · go_wp2_with (first
        | (go_at_call 9; ((with_reducible refine (HN.out _).mono ?_); rintro e w1 ⟨p, g, rfl, h1⟩); have H1 := Lib.hid h1; clear h1)
        | (go_at_call 8; ((with_reducible refine (alive_any _).mono ?_); rintro e w3 ⟨rfl, hb3⟩); have H3 := Lib.hid hb3; clear hb3))
      go_ret
      exact ⟨rfl, (HW.out.trans (H1.out.2.2.2.mono HW.out.size)).trans (H3.out.mono (Nat.le_trans HW.out.size H1.out.2.2.2.size))⟩
    · go_wp2_with (first
        | (go_at_call 9; ((with_reducible refine (HN.out _).mono ?_); rintro e w1 ⟨p, g, rfl, h1⟩); have H1 := Lib.hid h1; clear h1))
      go_loopg [38] m (fun gk t38 wr => ∃ i : Nat, i + gk = m ∧ t38 = .int .i64 (i : Int) ∧ Lives wc p g n n (putsP n noneP (lst f i)) wr)
      case atStart => exact ⟨0, by omega, rfl, H1.out⟩
      case round =>
        rename Nat => g0
        obtain ⟨i, hi, rfl, hL⟩ := hrel
        have HL := Lib.hid hL
        have HI := Lib.hid hi
        clear hL hi
        by_cases him : i < m
        · obtain ⟨b, off, x1, x2, x3, x4, hA, hlt, hf, k0, k1, k2, k3⟩ := (HP.out.below (HW.out.trans (HL.out.2.2.2.mono HW.out.size))).named him
          have HF := Lib.hid hf
          subst hA
          clear hf
          go_wp2_with (first
            | (go_at_call 11; ((with_reducible refine (live_put (HL.out.below ((Below.refl _ _).alloc (Nat.le_refl _) _))).mono ?_); rintro e w2 ⟨⟨u2, rfl⟩, h2⟩); have H2 := Lib.hid h2; clear h2))
          have hi := HI.out
          go_roundg (g0 - 1)
          case measure => omega
          case rel => exact ⟨i + 1, by omega, by simp, by rw [lst_puts, HF.out]; exact H2.out⟩
        · have hie : i = m := by have := HI.out; omega
          subst hie
          obtain ⟨T, hT⟩ : ∃ T, putsP n noneP (lst f i) = T := ⟨_, rfl⟩
          rw [hT] at HL
          clear hT
          obtain ⟨gv, gb, hg⟩ : ∃ gv gb, getP n T (b1, b2, b3) = (gv, gb) := ⟨_, _, rfl⟩
          obtain ⟨hv, hb, hh⟩ : ∃ hv hb, getP n (putP n T ((a1, a2, a3), a4)) (b1, b2, b3) = (hv, hb) := ⟨_, _, rfl⟩
          obtain ⟨sa, hsa⟩ : ∃ s, slotP n (a1, a2, a3) = s := ⟨_, rfl⟩
          obtain ⟨sb, hsb⟩ : ∃ s, slotP n (b1, b2, b3) = s := ⟨_, rfl⟩
          have hfar : sb ≠ sa → gv = hv ∧ gb = hb := fun hne => by
            have := getP_far n T ((a1, a2, a3), a4) (k := (b1, b2, b3)) (by rw [hsa, hsb]; exact hne)
            rw [hg, hh] at this
            injection this with h1 h2
            exact ⟨h1.symm, h2.symm⟩
          have HFar := Lib.hid hfar
          have HG := Lib.hid hg
          have HH := Lib.hid hh
          have HSA := Lib.hid hsa
          have HSB := Lib.hid hsb
          have bY := HY.out.below HL.out.2.2.2 HY.out.lt
          have y0 : wr.cell? ⟨y, 0, none⟩ = some (.int .i64 b1) := bY.cell 0
          have y1 : wr.cell? ⟨y, 1, none⟩ = some (.int .i64 b2) := bY.cell 1
          have y2 : wr.cell? ⟨y, 2, none⟩ = some (.int .i64 b3) := bY.cell 2
          clear hfar hg hh hsa hsb bY
          go_wp2_with (first
            | (go_at_call 14; ((with_reducible refine (live_get HL.out HG.out).mono ?_); rintro e w2 ⟨rfl, h2⟩); have H2 := Lib.hid h2; have bX := HX.out.below h2.2.2.2 HX.out.lt; have x0 : w2.cell? ⟨x, 0, none⟩ = some (.int .i64 a1) := bX.cell 0; have x1 : w2.cell? ⟨x, 1, none⟩ = some (.int .i64 a2) := bX.cell 1; have x2 : w2.cell? ⟨x, 2, none⟩ = some (.int .i64 a3) := bX.cell 2; have x3 : w2.cell? ⟨x, 3, none⟩ = some (.int .i64 a4) := bX.cell 3; clear h2 bX)
            | (go_at_call 11; ((with_reducible refine (live_put H2.out).mono ?_); rintro e w3 ⟨⟨u3, rfl⟩, h3⟩); have H3 := Lib.hid h3; have bY := HY.out.below h3.2.2.2 HY.out.lt; have y0 : w3.cell? ⟨y, 0, none⟩ = some (.int .i64 b1) := bY.cell 0; have y1 : w3.cell? ⟨y, 1, none⟩ = some (.int .i64 b2) := bY.cell 1; have y2 : w3.cell? ⟨y, 2, none⟩ = some (.int .i64 b3) := bY.cell 2; clear h3 bY)
            | (go_at_call 14; ((with_reducible refine (live_get H3.out HH.out).mono ?_); rintro e w4 ⟨rfl, h4⟩); have H4 := Lib.hid h4; clear h4))
          clear y0 y1 y2
          have K0 : Hid (Lives wc p g n n (putP n T ((a1, a2, a3), a4)) w4.drew ∧ x < w4.drew.heap.size ∧ y < w4.drew.heap.size ∧ w4.drew.cell? ⟨x, 0, none⟩ = some (.int .i64 a1) ∧ w4.drew.cell? ⟨x, 1, none⟩ = some (.int .i64 a2) ∧ w4.drew.cell? ⟨x, 2, none⟩ = some (.int .i64 a3) ∧ w4.drew.cell? ⟨y, 0, none⟩ = some (.int .i64 b1) ∧ w4.drew.cell? ⟨y, 1, none⟩ = some (.int .i64 b2) ∧ w4.drew.cell? ⟨y, 2, none⟩ = some (.int .i64 b3)) := Lib.hid (keep_two_box (Below.refl _ _).drew ⟨H4.out, Nat.lt_of_lt_of_le HX.out.lt H4.out.2.2.2.size, Nat.lt_of_lt_of_le HY.out.lt H4.out.2.2.2.size, (HX.out.below H4.out.2.2.2 HX.out.lt).cell 0, (HX.out.below H4.out.2.2.2 HX.out.lt).cell 1, (HX.out.below H4.out.2.2.2 HX.out.lt).cell 2, (HY.out.below H4.out.2.2.2 HY.out.lt).cell 0, (HY.out.below H4.out.2.2.2 HY.out.lt).cell 1, (HY.out.below H4.out.2.2.2 HY.out.lt).cell 2⟩)
          by_cases he : sb = sa
          · subst he
            go_region_held3 (fun w' => Lives wc p g n n (putP n T ((a1, a2, a3), a4)) w' ∧ x < w'.heap.size ∧ y < w'.heap.size ∧ w'.cell? ⟨x, 0, none⟩ = some (.int .i64 a1) ∧ w'.cell? ⟨x, 1, none⟩ = some (.int .i64 a2) ∧ w'.cell? ⟨x, 2, none⟩ = some (.int .i64 a3) ∧ w'.cell? ⟨y, 0, none⟩ = some (.int .i64 b1) ∧ w'.cell? ⟨y, 1, none⟩ = some (.int .i64 b2) ∧ w'.cell? ⟨y, 2, none⟩ = some (.int .i64 b3))
              (first | (with_reducible exact K0.out) | (with_reducible exact keep_two_box hb5 K0.out) | (with_reducible exact keep_two_box hb6 (keep_two_box hb5 K0.out)))
              (first
                | (go_at_call 16; ((with_reducible refine (slot_named HSB.out K0.out.1).mono ?_); rintro e w5 ⟨rfl, hb5⟩))
                | (go_at_call 16; ((with_reducible refine (slot_named HSA.out (keep_two_box hb5 K0.out).1).mono ?_); rintro e w6 ⟨rfl, hb6⟩)))
            have HF := Lib.hid (keep_two_box hb6 (keep_two_box hb5 K0.out)).1
            clear hb5 hb6
            go_wp2_with (first
              | (go_at_call 8; ((with_reducible refine (alive_any _).mono ?_); rintro e w7 ⟨rfl, hb7⟩); have H7 := Lib.hid (HF.out.below hb7); clear hb7))
            go_ret
            exact ⟨rfl, HW.out.trans (H7.out.2.2.2.mono HW.out.size)⟩
          · obtain ⟨rfl, rfl⟩ := HFar.out he
            have hne : ¬ ((sb : Int) = (sa : Int)) := by omega
            have d1 : ((sb : Int) == (sa : Int)) = false := by simp; omega
            have d2 : (sb == sa) = false := by simpa using he
            go_region_held3 (fun w' => Lives wc p g n n (putP n T ((a1, a2, a3), a4)) w' ∧ x < w'.heap.size ∧ y < w'.heap.size ∧ w'.cell? ⟨x, 0, none⟩ = some (.int .i64 a1) ∧ w'.cell? ⟨x, 1, none⟩ = some (.int .i64 a2) ∧ w'.cell? ⟨x, 2, none⟩ = some (.int .i64 a3) ∧ w'.cell? ⟨y, 0, none⟩ = some (.int .i64 b1) ∧ w'.cell? ⟨y, 1, none⟩ = some (.int .i64 b2) ∧ w'.cell? ⟨y, 2, none⟩ = some (.int .i64 b3))
              (first | (with_reducible exact K0.out) | (with_reducible exact keep_two_box hb5 K0.out) | (with_reducible exact keep_two_box hb6 (keep_two_box hb5 K0.out)))
              (first
                | (go_at_call 16; ((with_reducible refine (slot_named HSB.out K0.out.1).mono ?_); rintro e w5 ⟨rfl, hb5⟩))
                | (go_at_call 16; ((with_reducible refine (slot_named HSA.out (keep_two_box hb5 K0.out).1).mono ?_); rintro e w6 ⟨rfl, hb6⟩)))
            have HF := Lib.hid (keep_two_box hb6 (keep_two_box hb5 K0.out)).1
            clear hb5 hb6
            go_wp2_with (first
              | (go_at_call 8; ((with_reducible refine (alive_any _).mono ?_); rintro e w7 ⟨rfl, hb7⟩); have H7 := Lib.hid (HF.out.below hb7); clear hb7))
            go_ret
            exact ⟨rfl, HW.out.trans (H7.out.2.2.2.mono HW.out.size)⟩
end Go.Proofs.Ytchipmiklbnedab
