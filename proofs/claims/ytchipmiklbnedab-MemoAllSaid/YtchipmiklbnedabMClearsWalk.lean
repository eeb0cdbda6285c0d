/- The walk of MemoClears. -/
import Derived.Test.YtchipmiklbnedabMAlive
import Derived.Test.YtchipmiklbnedabMRefGet
namespace Go.Proofs.Ytchipmiklbnedab
open Go.RowKit
attribute [local go_sem ↓] Go.wp_at_zero Go.wp_at_succ

theorem new_named {k : Int} {n : Nat} (hn : sizeP k = n) (W : World) : Calls Try.prog 9 #[.int .i64 k] W fun e w' => ∃ p g, e = .returned (.pointer (some ⟨p, 0, none⟩)) ∧ Lives W p g n n noneP w' := by
  rw [← hn]; exact (live_new k W).mono fun _ _ h => ⟨_, _, h⟩
/-- A put of the row, named. -/
theorem Puts.named {W : World} {A : Option Addr} {m i : Nat} {f : Nat → Ky × Int} (h : Puts W A m f) (hi : i < m) : ∃ (b off : Nat) (x1 x2 x3 x4 : Int), A = some ⟨b, off, none⟩ ∧ b < W.heap.size ∧ f i = ((x1, x2, x3), x4) ∧ W.cell? ⟨b, off + i * 4, none⟩ = some (.int .i64 x1) ∧ W.cell? ⟨b, off + i * 4 + 1, none⟩ = some (.int .i64 x2) ∧ W.cell? ⟨b, off + i * 4 + 2, none⟩ = some (.int .i64 x3) ∧ W.cell? ⟨b, off + i * 4 + 3, none⟩ = some (.int .i64 x4) := by
  obtain ⟨b, off, hA, hlt, hc⟩ := h (by omega)
  obtain ⟨h0, h1, h2, h3⟩ := hc i hi
  exact ⟨b, off, _, _, _, _, hA, hlt, rfl, h0, h1, h2, h3⟩
theorem live_copy {w W : World} {p g n c : Nat} {T : Nat → Pl} (h : Lives w p g n c T W) : Calls Try.prog 19 #[.pointer (some ⟨p, 0, none⟩)] W fun e w' => ∃ p' g' c', e = .returned (.pointer (some ⟨p', 0, none⟩)) ∧ (p' ≠ p ∧ p' ≠ g ∧ g' ≠ p ∧ g' ≠ g) ∧ MemoR w' p' g' n c' T ∧ Lives w p g n c T w' ∧ Below W.heap.size W w' :=
  (copy_any h.1).mono fun _ _ ⟨p', g', c', h1, h2, h3, h4, h5⟩ => ⟨p', g', c', h1, by have := h.1.blk.lt; have := h.1.glt; omega, h4, h.below h5, h5⟩
theorem live_get2 {w W : World} {p g n c : Nat} {T : Nat → Pl} {a b d : Int} {v : Int} {is : Bool} (h : Lives w p g n c T W) (hg : getP n T (a, b, d) = (v, is)) : Calls Try.prog 14 #[.pointer (some ⟨p, 0, none⟩), .agg #[.int .i64 a, .int .i64 b, .int .i64 d]] W fun e w' => e = .returned (.tuple #[.int .i64 v, .bool is]) ∧ Lives w p g n c T w' ∧ Below W.heap.size W w' :=
  (get_any h.1).mono fun _ _ ⟨h1, h2⟩ => ⟨by rw [hg] at h1; exact h1, h.below h2, h2⟩
theorem len_of {W : World} {p g n c k : Nat} {T : Nat → Pl} (h : MemoR W p g n c T) (hk : lenP T n = k) : Calls Try.prog 12 #[.pointer (some ⟨p, 0, none⟩)] W (RetW (.int .i64 (k : Nat)) W) := by
  rw [← hk]; exact len_any h.c1
set_option maxRecDepth 100000 in
set_option maxHeartbeats 3200000 in
theorem clears_walk (k : Int) (f : Nat → Ky × Int) (A : Option Addr) (m c : Nat) (w : World) (_ : m ≤ 9223372036854775807) (hmc : m ≤ c) (hP : Puts w A m f) :
    Calls Try.prog 6 #[.int .i64 k, .slice A m c] w (RetB (.bool true) w) := by
  obtain ⟨n, hn⟩ : ∃ n, sizeP k = n := ⟨_, rfl⟩
  have HN := Lib.hid (new_named hn)
  have HP := Lib.hid hP
  have ne := ne_nil
  have nn : ∀ (b : Nat) (w : World), (binOp .neq 25 (.pointer (some ⟨b, 0, none⟩)) (.pointer none)).run Try.prog w = .ok (.bool true) w := fun _ _ => by kernel_rfl
  clear hn hP
  by_cases hl : 200 < m
  · go_enter Try.func6, Try.ntmps6
    go_wp2_with (first
      | (go_at_call 9; ((with_reducible refine (HN.out _).mono ?_); rintro e w1 ⟨p, g, rfl, h1⟩); have H1 := Lib.hid h1; clear h1)
      | (go_at_call 8; ((with_reducible refine (alive_any _).mono ?_); rintro e w3 ⟨rfl, hb3⟩); have H3 := Lib.hid hb3; clear hb3))
    go_ret
    exact ⟨rfl, H1.out.2.2.2.trans (H3.out.mono H1.out.2.2.2.size)⟩
  · go_enter Try.func6, Try.ntmps6
    go_wp2_with (first
      | (go_at_call 9; ((with_reducible refine (HN.out _).mono ?_); rintro e w1 ⟨p, g, rfl, h1⟩); have H1 := Lib.hid h1; clear h1))
    go_loopg [30] m (fun gk t30 wr => ∃ i : Nat, i + gk = m ∧ t30 = .int .i64 (i : Int) ∧ Lives w p g n n (putsP n noneP (lst f i)) wr)
    case atStart => exact ⟨0, by omega, rfl, H1.out⟩
    case round =>
      rename Nat => g0
      obtain ⟨i, hi, rfl, hL⟩ := hrel
      have HL := Lib.hid hL
      have HI := Lib.hid hi
      clear hL hi
      by_cases him : i < m
      · obtain ⟨b, off, x1, x2, x3, x4, hA, hlt, hf, k0, k1, k2, k3⟩ := (HP.out.below HL.out.2.2.2).named him
        have HF := Lib.hid hf
        subst hA
        clear hf
        go_wp2_with (first
          | (go_at_call 11; ((with_reducible refine (live_put (HL.out.below ((Below.refl _ _).alloc (Nat.le_refl _) _))).mono ?_); rintro e w2 ⟨⟨u2, rfl⟩, h2⟩); have H2 := Lib.hid h2; clear h2))
        have hi := HI.out
        go_roundg (g0 - 1)
        case measure => omega
        case rel => exact ⟨i + 1, by omega, by simp, by rw [lst_puts, HF.out]; exact H2.out⟩
      · have hie : i = m := by have := HI.out; omega
        subst hie
        obtain ⟨q, hq⟩ : ∃ q, lenP (putsP n noneP (lst f i)) n = q := ⟨_, rfl⟩
        have HQ := Lib.hid hq
        clear hq
        go_wp2_with (first
          | (go_at_call 19; ((with_reducible refine (live_copy HL.out).mono ?_); rintro e w2 ⟨p', g', c', rfl, hne, hM, hL2, -⟩); have H2 := Lib.hid hL2; have HM2 := Lib.hid hM; have HNE := Lib.hid hne; clear hne hM hL2)
          | (go_at_call 12; ((with_reducible refine (live_len H2.out HQ.out).mono ?_); rintro e w9 ⟨rfl, rfl⟩))
          | (go_at_call 20; ((with_reducible refine (live_clear H2.out).mono ?_); rintro e w3 ⟨⟨u3, rfl⟩, hL3, ho3⟩); have H3 := Lib.hid hL3; have HM3 := Lib.hid (HM2.out.only ho3 (by have := HNE.out; omega) (by have := HNE.out; omega)); clear hL3 ho3))
        obtain ⟨wo, hwo⟩ : ∃ wo : World, wo = w3 := ⟨_, rfl⟩
        go_loopg [51] i (fun gj t51 wr => ∃ j : Nat, j + gj = i ∧ t51 = .int .i64 (j : Int) ∧ Lives w p g n n noneP wr ∧ MemoR wr p' g' n c' (putsP n noneP (lst f i)))
        case atStart => exact ⟨0, by omega, rfl, H3.out, HM3.out⟩
        case round =>
          rename Nat => gj
          obtain ⟨j, hj, rfl, hLj, hMj⟩ := hrel
          have HLj := Lib.hid hLj
          have HMj := Lib.hid hMj
          have HJ := Lib.hid hj
          clear hLj hMj hj
          by_cases hji : j < i
          · obtain ⟨b, off, x1, x2, x3, x4, hA, hlt, -, k0, k1, k2, k3⟩ := (HP.out.below HLj.out.2.2.2).named hji
            subst hA
            go_wp2_with (first
              | (go_at_call 14; ((with_reducible refine (live_get2 (HLj.out.below ((Below.refl _ _).alloc (Nat.le_refl _) _)) rfl).mono ?_); rintro e w4 ⟨rfl, h4, hb4⟩); have H4 := Lib.hid h4; have HB4 := Lib.hid hb4; clear h4 hb4))
            have hj := HJ.out
            go_roundg (gj - 1)
            case measure => omega
            case rel => exact ⟨j + 1, by omega, by simp, H4.out, (HMj.out.below ((Below.refl _ _).alloc (Nat.le_refl _) _)).below HB4.out⟩
          · have hje : j = i := by have := HJ.out; omega
            subst hje
            go_wp2_with (first
              | (go_at_call 8; ((with_reducible refine (alive_any _).mono ?_); rintro e w5 ⟨rfl, hb5⟩); have H5 := Lib.hid (HLj.out.below hb5); have HM5 := Lib.hid (HMj.out.below hb5); clear hb5)
              | (go_at_call 12; ((with_reducible refine (live_len H5.out (lenP_none n)).mono ?_); rintro e w9 ⟨rfl, rfl⟩))
              | (go_at_call 12; ((with_reducible refine (len_of HM5.out HQ.out).mono ?_); rintro e w9 ⟨rfl, rfl⟩))
              | (go_at_call 18; ((with_reducible refine (live_size H5.out).mono ?_); rintro e w9 ⟨rfl, rfl⟩))
              | (go_at_call 18; ((with_reducible refine (size_any HM5.out.c0).mono ?_); rintro e w9 ⟨rfl, rfl⟩)))
            go_ret
            exact ⟨rfl, H5.out.2.2.2⟩
end Go.Proofs.Ytchipmiklbnedab
