/- The walk of MemoAll. -/
import Derived.Test.YtchipmiklbnedabMLastWalk
import Derived.Test.YtchipmiklbnedabMRefLen
import Derived.Test.YtchipmiklbnedabMArgs2
namespace Go.Proofs.Ytchipmiklbnedab
open Go.RowKit
attribute [local go_sem ↓] Go.wp_at_zero Go.wp_at_succ

theorem Keys.below {w w' : World} {A : Option Addr} {m : Nat} {f : Nat → Ky} (h : Keys w A m f) (hb : Below w.heap.size w w') : Keys w' A m f := fun hm => by
  obtain ⟨b, off, rfl, hlt, hc⟩ := h hm
  refine ⟨b, off, rfl, Nat.lt_of_lt_of_le hlt hb.size, fun j hj => ?_⟩
  obtain ⟨h0, h1, h2⟩ := hc j hj
  exact ⟨(hb.cell (p := ⟨b, _, none⟩) hlt).trans h0, (hb.cell (p := ⟨b, _, none⟩) hlt).trans h1, (hb.cell (p := ⟨b, _, none⟩) hlt).trans h2⟩
theorem Keys.named {W : World} {A : Option Addr} {m i : Nat} {f : Nat → Ky} (h : Keys W A m f) (hi : i < m) : ∃ (b off : Nat) (x1 x2 x3 : Int), A = some ⟨b, off, none⟩ ∧ b < W.heap.size ∧ f i = (x1, x2, x3) ∧ W.cell? ⟨b, off + i * 3, none⟩ = some (.int .i64 x1) ∧ W.cell? ⟨b, off + i * 3 + 1, none⟩ = some (.int .i64 x2) ∧ W.cell? ⟨b, off + i * 3 + 2, none⟩ = some (.int .i64 x3) := by
  obtain ⟨b, off, hA, hlt, hc⟩ := h (by omega)
  obtain ⟨h0, h1, h2⟩ := hc i hi
  exact ⟨b, off, _, _, _, hA, hlt, rfl, h0, h1, h2⟩
theorem rsize_named {k : Int} {n : Nat} (hn : sizeP k = n) (w : World) : Calls Try.prog 10 #[.int .i64 k] w (RetW (.int .i64 (n : Nat)) w) := by rw [← hn]; exact rsize_any k w
theorem rlen_named {W : World} {A : Option Addr} {m c n q : Nat} {f : Nat → Ky × Int} (hq : lenP (putsP n noneP (lst f m)) n = q) (h : Puts W A m f) (hm : m ≤ 4611686018427387904) (hn : 0 < n ∧ n ≤ 65536) :
    Calls Try.prog 13 #[.int .i64 (n : Int), .slice A m c] W (RetB (.int .i64 (q : Nat)) W) := by rw [← hq]; exact rlen_any h hm hn.1 hn.2
theorem rget_named {W : World} {A : Option Addr} {m c n : Nat} {f : Nat → Ky × Int} {a b d v : Int} {is : Bool} (hg : getP n (putsP n noneP (lst f m)) (a, b, d) = (v, is)) (h : Puts W A m f) (hm : m ≤ 4611686018427387904) (hn : 0 < n ∧ n ≤ 65536) :
    Calls Try.prog 15 #[.int .i64 (n : Int), .slice A m c, .agg #[.int .i64 a, .int .i64 b, .int .i64 d]] W (RetB (.tuple #[.int .i64 v, .bool is]) W) :=
  (rget_any h hm hn.1 hn.2).mono fun _ _ ⟨h1, h2⟩ => ⟨by rw [hg] at h1; exact h1, h2⟩
theorem rslot_named {W : World} {n s : Nat} {a b d : Int} (hs : slotP n (a, b, d) = s) (hn : 0 < n ∧ n ≤ 65536) : Calls Try.prog 17 #[.int .i64 (n : Int), .agg #[.int .i64 a, .int .i64 b, .int .i64 d]] W (RetB (.int .i64 (s : Nat)) W) := by
  rw [← hs]; exact rslot_any n a b d W hn.1 hn.2
theorem mslot_named {w W : World} {p g n c s : Nat} {T : Nat → Pl} {a b d : Int} (hs : slotP n (a, b, d) = s) (h : Lives w p g n c T W) : Calls Try.prog 16 #[.pointer (some ⟨p, 0, none⟩), .agg #[.int .i64 a, .int .i64 b, .int .i64 d]] W (RetB (.int .i64 (s : Nat)) W) := by
  rw [← hs]; exact slot_any a b d h.1.c0 h.1.room.1 h.1.room.2
theorem keep_live3 {w W W1 : World} {p g n c q : Nat} {T : Nat → Pl} {x y z : Option Value} (hb : Below W.heap.size W W1) (h : Lives w p g n c T W ∧ q < W.heap.size ∧ W.cell? ⟨q, 0, none⟩ = x ∧ W.cell? ⟨q, 1, none⟩ = y ∧ W.cell? ⟨q, 2, none⟩ = z) :
    Lives w p g n c T W1 ∧ q < W1.heap.size ∧ W1.cell? ⟨q, 0, none⟩ = x ∧ W1.cell? ⟨q, 1, none⟩ = y ∧ W1.cell? ⟨q, 2, none⟩ = z :=
  ⟨h.1.below hb, Nat.lt_of_lt_of_le h.2.1 hb.size, (hb.cell (p := ⟨q, 0, none⟩) h.2.1).trans h.2.2.1, (hb.cell (p := ⟨q, 1, none⟩) h.2.1).trans h.2.2.2.1, (hb.cell (p := ⟨q, 2, none⟩) h.2.1).trans h.2.2.2.2⟩
set_option maxRecDepth 100000 in
set_option maxHeartbeats 6400000 in
theorem all_walk (k : Int) (f : Nat → Ky × Int) (A : Option Addr) (m c : Nat) (h : Nat → Ky) (B : Option Addr) (mb cb : Nat) (w : World) (_ : m ≤ 9223372036854775807) (hmc : m ≤ c) (hP : Puts w A m f) (_ : mb ≤ 9223372036854775807) (hbc : mb ≤ cb) (hK : Keys w B mb h) :
    Calls Try.prog 3 #[.int .i64 k, .slice A m c, .slice B mb cb] w (RetB (.bool true) w) := by
  obtain ⟨n, hn⟩ : ∃ n, sizeP k = n := ⟨_, rfl⟩
  have HN := Lib.hid (new_named hn)
  have HR := Lib.hid (rsize_named hn)
  have hbd : Hid (0 < n ∧ n ≤ 65536) := Lib.hid (by have := sizeP_bd k; omega)
  have HP := Lib.hid hP
  have HK := Lib.hid hK
  have ne := ne_nil
  clear hn hP hK
  by_cases hl : 100 < m ∨ 50 < mb
  · by_cases hl1 : 100 < m
    all_goals
      go_enter Try.func3, Try.ntmps3
      have hl2 : ¬ 100 < m → 50 < mb := by omega
      try have hl3 := hl2 hl1
      clear hl hl2
      go_wp2_with (first
        | (go_at_call 8; ((with_reducible refine (alive_any _).mono ?_); rintro e w3 ⟨rfl, hb3⟩); have H3 := Lib.hid hb3; clear hb3))
      go_ret
      exact ⟨rfl, H3.out⟩
  · have hl1 : ¬ 100 < m := by omega
    have hl2 : ¬ 50 < mb := by omega
    clear hl
    go_enter Try.func3, Try.ntmps3
    go_wp2_with (first
      | (go_at_call 9; ((with_reducible refine (HN.out _).mono ?_); rintro e w1 ⟨p, g, rfl, h1⟩); have H1 := Lib.hid h1; clear h1)
      | (go_at_call 10; ((with_reducible refine (HR.out _).mono ?_); rintro e w9 ⟨rfl, rfl⟩)))
    go_loopg [34] m (fun gk t34 wr => ∃ i : Nat, i + gk = m ∧ t34 = .int .i64 (i : Int) ∧ Lives w p g n n (putsP n noneP (lst f i)) wr)
    case atStart => exact ⟨0, by omega, rfl, H1.out⟩
    case round =>
      rename Nat => g0
      obtain ⟨i, hi, rfl, hL⟩ := hrel
      have HL := Lib.hid hL
      have HI := Lib.hid hi
      clear hL hi
      by_cases him : i < m
      · obtain ⟨b, off, x1, x2, x3, x4, hA, hlt, hf, k0, k1, k2, k3⟩ := (HP.out.below HL.out.2.2.2).named him
        have HF := Lib.hid hf
        subst hA
        clear hf
        go_wp2_with (first
          | (go_at_call 11; ((with_reducible refine (live_put (HL.out.below ((Below.refl _ _).alloc (Nat.le_refl _) _))).mono ?_); rintro e w2 ⟨⟨u2, rfl⟩, h2⟩); have H2 := Lib.hid (show Lives w p g n n (putsP n noneP (lst f (i + 1))) w2 by rw [lst_puts, HF.out]; exact h2); clear h2))
        obtain ⟨q, hq⟩ : ∃ q, lenP (putsP n noneP (lst f (i + 1))) n = q := ⟨_, rfl⟩
        have HQ := Lib.hid hq
        clear hq k0 k1 k2 k3
        have HPi := Lib.hid (HP.out.le (show i + 1 ≤ m by omega))
        have hroom := hbd.out
        have hw1 : IntKind.i64.wrap ((i : Int) + 1) = (i : Int) + 1 := IntWalk.i64_in _ (by omega)
        have hw2 : (0 : Int) ≤ (i : Int) + 1 := by omega
        have hw3 : ((i : Int) + 1).toNat = i + 1 := by omega
        have hw4 : (i : Int) + 1 ≤ (c : Int) := by omega
        have hw5 : i + 1 ≤ c := by omega
        have hi61 : i + 1 ≤ 4611686018427387904 := by omega
        by_cases h8 : i % 8 = 0
        · have e1 : (i : Int).tmod 8 = 0 := by rw [Int.tmod_eq_emod_of_nonneg (by omega)]; omega
          have e2 : (i : Int) % 8 = 0 := by omega
          have K0 : Hid (Lives w p g n n (putsP n noneP (lst f (i + 1))) w2.drew) := Lib.hid (H2.out.below (Below.refl _ _).drew)
          have HPd := Lib.hid (HPi.out.below K0.out.2.2.2)
          go_region_held3 (fun w' => Lives w p g n n (putsP n noneP (lst f (i + 1))) w')
            (first | (with_reducible exact K0.out) | (with_reducible exact Lives.below K0.out hb3))
            (first
              | (go_at_call 12; ((with_reducible refine (live_len K0.out HQ.out).mono ?_); rintro e w9 ⟨rfl, rfl⟩))
              | (go_at_call 13; ((with_reducible refine (rlen_named HQ.out HPd.out hi61 hroom).mono ?_); rintro e w3 ⟨rfl, hb3⟩)))
          have H3 := Lib.hid (K0.out.below hb3)
          clear hb3 e1 e2 hw1 hw2 hw3 hw4
          go_wp2_with fail
          have hi := HI.out
          go_roundg (g0 - 1)
          case measure => omega
          case rel => exact ⟨i + 1, by omega, by simp, H3.out⟩
        · have e1 : ((i : Int).tmod 8 == 0) = false := by rw [Int.tmod_eq_emod_of_nonneg (by omega)]; simp; omega
          have e2 : ((i : Int) % 8 == 0) = false := by simp; omega
          have e3 : decide ((i : Int).tmod 8 = 0) = false := by rw [Int.tmod_eq_emod_of_nonneg (by omega)]; simp; omega
          have e4 : decide ((i : Int) % 8 = 0) = false := by simp; omega
          clear hw1 hw2 hw3 hw4
          go_quiet (fail)
          go_wp2_with fail
          have hi := HI.out
          go_roundg (g0 - 1)
          case measure => omega
          case rel => exact ⟨i + 1, by omega, by simp, H2.out.below (drewN_below _ _)⟩
      · have hie : i = m := by have := HI.out; omega
        subst hie
        go_wp2_with fail
        go_loopg [62] mb (fun gj t62 wr => ∃ j : Nat, j + gj = mb ∧ t62 = .int .i64 (j : Int) ∧ Lives w p g n n (putsP n noneP (lst f i)) wr)
        case atStart => exact ⟨0, by omega, rfl, HL.out⟩
        case round =>
          rename Nat => g1
          obtain ⟨j, hj, rfl, hLj⟩ := hrel
          have HLj := Lib.hid hLj
          have HJ := Lib.hid hj
          clear hLj hj
          obtain ⟨wo, hwo⟩ : ∃ wo : World, wo = wr := ⟨_, rfl⟩
          subst hwo
          by_cases hjm : j < mb
          · obtain ⟨kb, ko, z1, z2, z3, hB, hklt, -, k0, k1, k2⟩ := (HK.out.below HLj.out.2.2.2).named hjm
            subst hB
            obtain ⟨gv, gb, hg⟩ : ∃ gv gb, getP n (putsP n noneP (lst f i)) (z1, z2, z3) = (gv, gb) := ⟨_, _, rfl⟩
            obtain ⟨s, hs⟩ : ∃ s, slotP n (z1, z2, z3) = s := ⟨_, rfl⟩
            have HG := Lib.hid hg
            have HS := Lib.hid hs
            have hbx := (Below.refl wo.heap.size wo).alloc (Nat.le_refl _) (.cells #[.int .i64 z1, .int .i64 z2, .int .i64 z3] 28)
            have HX := Lib.hid (Blk.new wo 28 #[.int .i64 z1, .int .i64 z2, .int .i64 z3])
            have HLx := Lib.hid (HLj.out.below hbx)
            have hi61 : i ≤ 4611686018427387904 := by omega
            have hroom := hbd.out
            clear hg hs hbx
            go_wp2_with (first
              | (go_at_call 14; ((with_reducible refine (live_get2 HLx.out HG.out).mono ?_); rintro e w2 ⟨rfl, h2, hb2⟩); have H2 := Lib.hid h2; have HP2 := Lib.hid (HP.out.below h2.2.2.2); have HX2 := Lib.hid (HX.out.below hb2 HX.out.lt); have y0 : w2.cell? ⟨wo.heap.size, 0, none⟩ = some (.int .i64 z1) := HX2.out.cell 0; have y1 : w2.cell? ⟨wo.heap.size, 1, none⟩ = some (.int .i64 z2) := HX2.out.cell 1; have y2 : w2.cell? ⟨wo.heap.size, 2, none⟩ = some (.int .i64 z3) := HX2.out.cell 2; clear h2 hb2)
              | (go_at_call 15; ((with_reducible refine (rget_named HG.out HP2.out hi61 hroom).mono ?_); rintro e w3 ⟨rfl, hb3⟩); have H3 := Lib.hid (H2.out.below hb3); have HX3 := Lib.hid (HX2.out.below hb3 HX2.out.lt); clear hb3))
            clear y0 y1 y2 k0 k1 k2
            have K0 : Hid (Lives w p g n n (putsP n noneP (lst f i)) w3.drew ∧ wo.heap.size < w3.drew.heap.size ∧ w3.drew.cell? ⟨wo.heap.size, 0, none⟩ = some (.int .i64 z1) ∧ w3.drew.cell? ⟨wo.heap.size, 1, none⟩ = some (.int .i64 z2) ∧ w3.drew.cell? ⟨wo.heap.size, 2, none⟩ = some (.int .i64 z3)) := Lib.hid (keep_live3 (Below.refl _ _).drew ⟨H3.out, HX3.out.lt, HX3.out.cell 0, HX3.out.cell 1, HX3.out.cell 2⟩)
            go_region_held3 (fun w' => Lives w p g n n (putsP n noneP (lst f i)) w' ∧ wo.heap.size < w'.heap.size ∧ w'.cell? ⟨wo.heap.size, 0, none⟩ = some (.int .i64 z1) ∧ w'.cell? ⟨wo.heap.size, 1, none⟩ = some (.int .i64 z2) ∧ w'.cell? ⟨wo.heap.size, 2, none⟩ = some (.int .i64 z3))
              (first | (with_reducible exact K0.out) | (with_reducible exact keep_live3 hb4 K0.out) | (with_reducible exact keep_live3 hb5 (keep_live3 hb4 K0.out)))
              (first
                | (go_at_call 16; ((with_reducible refine (mslot_named HS.out K0.out.1).mono ?_); rintro e w4 ⟨rfl, hb4⟩))
                | (go_at_call 17; ((with_reducible refine (rslot_named HS.out hroom).mono ?_); rintro e w5 ⟨rfl, hb5⟩)))
            have H5 := Lib.hid (keep_live3 hb5 (keep_live3 hb4 K0.out)).1
            clear hb4 hb5
            go_wp2_with fail
            have hj := HJ.out
            go_roundg (g1 - 1)
            case measure => omega
            case rel => exact ⟨j + 1, by omega, by simp, H5.out⟩
          · have hje : j = mb := by have := HJ.out; omega
            subst hje
            go_wp2_with (first
              | (go_at_call 8; ((with_reducible refine (alive_any _).mono ?_); rintro e w7 ⟨rfl, hb7⟩); have H7 := Lib.hid (HLj.out.below hb7); clear hb7)
              | (go_at_call 18; ((with_reducible refine (live_size H7.out).mono ?_); rintro e w9 ⟨rfl, rfl⟩)))
            go_ret
            exact ⟨rfl, H7.out.2.2.2⟩
end Go.Proofs.Ytchipmiklbnedab
