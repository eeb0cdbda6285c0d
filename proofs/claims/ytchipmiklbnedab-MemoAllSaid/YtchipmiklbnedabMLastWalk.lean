/- The walk of MemoLast. -/
import Derived.Test.YtchipmiklbnedabMClearsWalk
namespace Go.Proofs.Ytchipmiklbnedab
open Go.RowKit
attribute [local go_sem ↓] Go.wp_at_zero Go.wp_at_succ

/-- A row of puts, at a place. -/
def RowAt (w : World) (b off m : Nat) (f : Nat → Ky × Int) : Prop := b < w.heap.size ∧ ∀ j, j < m → w.cell? ⟨b, off + j * 4, none⟩ = some (.int .i64 (f j).1.1) ∧ w.cell? ⟨b, off + j * 4 + 1, none⟩ = some (.int .i64 (f j).1.2.1) ∧ w.cell? ⟨b, off + j * 4 + 2, none⟩ = some (.int .i64 (f j).1.2.2) ∧ w.cell? ⟨b, off + j * 4 + 3, none⟩ = some (.int .i64 (f j).2)
theorem RowAt.below {w w' : World} {b off m : Nat} {f : Nat → Ky × Int} (h : RowAt w b off m f) (hb : Below w.heap.size w w') : RowAt w' b off m f :=
  ⟨Nat.lt_of_lt_of_le h.1 hb.size, fun j hj => by
    obtain ⟨h0, h1, h2, h3⟩ := h.2 j hj
    exact ⟨(hb.cell (p := ⟨b, _, none⟩) h.1).trans h0, (hb.cell (p := ⟨b, _, none⟩) h.1).trans h1, (hb.cell (p := ⟨b, _, none⟩) h.1).trans h2, (hb.cell (p := ⟨b, _, none⟩) h.1).trans h3⟩⟩
theorem RowAt.named {W : World} {b off m i : Nat} {f : Nat → Ky × Int} (h : RowAt W b off m f) (hi : i < m) : ∃ (x1 x2 x3 x4 : Int), f i = ((x1, x2, x3), x4) ∧ W.cell? ⟨b, off + i * 4, none⟩ = some (.int .i64 x1) ∧ W.cell? ⟨b, off + i * 4 + 1, none⟩ = some (.int .i64 x2) ∧ W.cell? ⟨b, off + i * 4 + 2, none⟩ = some (.int .i64 x3) ∧ W.cell? ⟨b, off + i * 4 + 3, none⟩ = some (.int .i64 x4) := by
  obtain ⟨h0, h1, h2, h3⟩ := h.2 i hi
  exact ⟨_, _, _, _, rfl, h0, h1, h2, h3⟩
/-- The value of the last put of that key, from the k-th put to the one ahead of the j-th. -/
def IsLast (f : Nat → Ky × Int) (k j : Nat) (v : Int) : Prop := ∃ e, k ≤ e ∧ (e < j ∨ e = k) ∧ (f e).1 = (f k).1 ∧ v = (f e).2 ∧ ∀ i, e < i → i < j → (f i).1 ≠ (f k).1
theorem last_start (f : Nat → Ky × Int) (k : Nat) : IsLast f k k (f k).2 := ⟨k, Nat.le_refl _, .inr rfl, rfl, rfl, fun i h1 h2 => by omega⟩
theorem last_hit {f : Nat → Ky × Int} {k j : Nat} (hk : k ≤ j) (h : (f j).1 = (f k).1) : IsLast f k (j + 1) (f j).2 := ⟨j, hk, .inl (by omega), h, rfl, fun i h1 h2 => by omega⟩
theorem last_miss {f : Nat → Ky × Int} {k j : Nat} {v : Int} (hL : IsLast f k j v) (h : (f j).1 ≠ (f k).1) : IsLast f k (j + 1) v := by
  obtain ⟨e, h1, h2, h3, h4, h5⟩ := hL
  refine ⟨e, h1, by omega, h3, h4, fun i hi hj => ?_⟩
  by_cases e2 : i = j
  · rw [e2]; exact h
  · exact h5 i hi (by omega)
theorem last_is {n i k : Nat} {f : Nat → Ky × Int} {u v : Int} (hk : k ≤ i) (hg : getP n (putsP n noneP (lst f (i + 1))) (f k).1 = (v, true)) (hL : IsLast f k (i + 1) u) : v = u := by
  unfold getP at hg
  cases hT : putsP n noneP (lst f (i + 1)) (slotP n (f k).1) with
  | none => rw [hT] at hg; cases hg
  | some x =>
    rw [hT] at hg
    have hx : x.1 = (f k).1 ∧ x.2 = v := by
      by_cases e : x.1 = (f k).1
      · rw [show atP (some x) (f k).1 = (x.2, true) from if_pos e] at hg
        injection hg with h1 h2
        exact ⟨e, h1⟩
      · rw [show atP (some x) (f k).1 = (0, false) from if_neg e] at hg
        injection hg with h1 h2
        cases h2
    obtain ⟨e0, h1, h2, h3⟩ := puts_some hT
    obtain ⟨h4, rfl⟩ := lst_of f h1
    obtain ⟨e, g1, g2, g3, rfl, g5⟩ := hL
    have hke : k ≤ e0 := by
      rcases Nat.lt_or_ge e0 k with hlt | hge
      · exact absurd rfl (h3 k _ hlt (lst_at f (by omega)))
      · exact hge
    rw [← hx.2]
    rcases Nat.lt_trichotomy e e0 with hlt | rfl | hgt
    · exact absurd hx.1 (g5 e0 hlt h4)
    · rfl
    · exact absurd (by rw [g3]) (h3 e _ hgt (lst_at f (by omega)))
theorem live_put2 {w W : World} {p g n c : Nat} {T : Nat → Pl} {a b d v : Int} (h : Lives w p g n c T W) : Calls Try.prog 11 #[.pointer (some ⟨p, 0, none⟩), .agg #[.int .i64 a, .int .i64 b, .int .i64 d], .int .i64 v] W fun e w' => (∃ u, e = .returned u) ∧ Lives w p g n c (putP n T ((a, b, d), v)) w' ∧ Only (fun i => i = p ∨ i = g) W w' :=
  (put_any h.1).mono fun _ _ ⟨h1, h2, h3⟩ => ⟨h1, ⟨h2, h.2.1, h.2.2.1, h.2.2.2.trans (h3.below h.2.2.2.size (fun i hi => by
    rcases hi with rfl | rfl
    · exact h.2.1
    · exact h.2.2.1))⟩, h3⟩
attribute [local go_sem ↓] eqK2 eqgK2 in
set_option maxRecDepth 100000 in
set_option maxHeartbeats 6400000 in
theorem last_walk (k : Int) (f : Nat → Ky × Int) (A : Option Addr) (m c : Nat) (w : World) (_ : m ≤ 9223372036854775807) (hmc : m ≤ c) (hP : Puts w A m f) :
    Calls Try.prog 4 #[.int .i64 k, .slice A m c] w (RetB (.bool true) w) := by
  obtain ⟨n, hn⟩ : ∃ n, sizeP k = n := ⟨_, rfl⟩
  have HN := Lib.hid (new_named hn)
  have HP := Lib.hid hP
  have ne := ne_nil
  have nn : ∀ (b : Nat) (w : World), (binOp .neq 25 (.pointer (some ⟨b, 0, none⟩)) (.pointer none)).run Try.prog w = .ok (.bool true) w := fun _ _ => by kernel_rfl
  clear hn hP
  by_cases hl : 200 < m
  · go_enter Try.func4, Try.ntmps4
    go_wp2_with (first
      | (go_at_call 9; ((with_reducible refine (HN.out _).mono ?_); rintro e w1 ⟨p, g, rfl, h1⟩); have H1 := Lib.hid h1; clear h1)
      | (go_at_call 8; ((with_reducible refine (alive_any _).mono ?_); rintro e w3 ⟨rfl, hb3⟩); have H3 := Lib.hid hb3; clear hb3))
    go_ret
    exact ⟨rfl, H1.out.2.2.2.trans (H3.out.mono H1.out.2.2.2.size)⟩
  · go_enter Try.func4, Try.ntmps4
    go_wp2_with (first
      | (go_at_call 9; ((with_reducible refine (HN.out _).mono ?_); rintro e w1 ⟨p, g, rfl, h1⟩); have H1 := Lib.hid h1; clear h1))
    go_loopg [31] m (fun gk t31 wr => ∃ i : Nat, i + gk = m ∧ t31 = .int .i64 (i : Int) ∧ Lives w p g n n (putsP n noneP (lst f i)) wr)
    case atStart => exact ⟨0, by omega, rfl, H1.out⟩
    case round =>
      rename Nat => g0
      obtain ⟨i, hi, rfl, hL⟩ := hrel
      have HL := Lib.hid hL
      have HI := Lib.hid hi
      clear hL hi
      by_cases him : i < m
      · obtain ⟨b, off, hA, hlt, hc⟩ := HP.out (by omega)
        have HR : Hid (RowAt w b off m f) := Lib.hid ⟨hlt, hc⟩
        subst hA
        clear hlt hc
        obtain ⟨x1, x2, x3, x4, hf, k0, k1, k2, k3⟩ := (HR.out.below HL.out.2.2.2).named him
        have HF := Lib.hid hf
        have hbx := (Below.refl wr.heap.size wr).alloc (Nat.le_refl _) (.cells #[.int .i64 x1, .int .i64 x2, .int .i64 x3, .int .i64 x4] 30)
        have HX := Lib.hid (Blk.new wr 30 #[.int .i64 x1, .int .i64 x2, .int .i64 x3, .int .i64 x4])
        have HLx := Lib.hid (HL.out.below hbx)
        have hpg : ¬ (wr.heap.size = p ∨ wr.heap.size = g) := by have := HL.out.1.blk.lt; have := HL.out.1.glt; omega
        have HPG := Lib.hid hpg
        clear hf hbx hpg
        obtain ⟨wo, hwo⟩ : ∃ wo : World, wo = wr := ⟨_, rfl⟩
        subst hwo
        go_wp2_with (first
          | (go_at_call 11; ((with_reducible refine (live_put2 HLx.out).mono ?_); rintro e w2 ⟨⟨u2, rfl⟩, h2, ho2⟩); have H2 := Lib.hid (show Lives w p g n n (putsP n noneP (lst f (i + 1))) w2 by rw [lst_puts, HF.out]; exact h2); have HX2 := Lib.hid (ho2.blk HX.out HPG.out); have y0 : w2.cell? ⟨wo.heap.size, 0, none⟩ = some (.int .i64 x1) := HX2.out.cell 0; have y1 : w2.cell? ⟨wo.heap.size, 1, none⟩ = some (.int .i64 x2) := HX2.out.cell 1; have y2 : w2.cell? ⟨wo.heap.size, 2, none⟩ = some (.int .i64 x3) := HX2.out.cell 2; clear h2 ho2)
          | (go_at_call 14; ((with_reducible refine (live_get2 (v := x4) (is := true) H2.out (by rw [lst_puts, HF.out]; exact getP_put _ _ _)).mono ?_); rintro e w3 ⟨rfl, h3, hb3⟩); have H3 := Lib.hid h3; have y3 : w3.cell? ⟨wo.heap.size, 3, none⟩ = some (.int .i64 x4) := (HX2.out.below hb3 HX2.out.lt).cell 3; clear h3 hb3))
        clear y0 y1 y2 y3 k0 k1 k2 k3
        go_loopg [58] i (fun gj t58 wr => ∃ q : Nat, q + gj = i ∧ t58 = .int .i64 (q : Int) ∧ Lives w p g n n (putsP n noneP (lst f (i + 1))) wr)
        case atStart => exact ⟨0, by omega, rfl, H3.out⟩
        case round =>
          rename Nat => g1
          obtain ⟨q, hq, rfl, hLq⟩ := hrel
          have HLq := Lib.hid hLq
          have HQ := Lib.hid hq
          clear hLq hq
          by_cases hqi : q < i
          · have hqm : q < m := by omega
            obtain ⟨z1, z2, z3, z4, hfq, k0, k1, k2, k3⟩ := (HR.out.below HLq.out.2.2.2).named hqm
            have HFq := Lib.hid hfq
            have hblt : b < wr.heap.size := (HR.out.below HLq.out.2.2.2).1
            obtain ⟨gv, gb, hg⟩ : ∃ gv gb, getP n (putsP n noneP (lst f (i + 1))) (z1, z2, z3) = (gv, gb) := ⟨_, _, rfl⟩
            have HG := Lib.hid hg
            clear hfq hg
            go_wp2_with (first
              | (go_at_call 14; ((with_reducible refine (live_get2 HLq.out HG.out).mono ?_); rintro e w4 ⟨rfl, h4, hb4⟩); have H4 := Lib.hid h4; have y4 : w4.cell? ⟨b, off + q * 4 + 3, none⟩ = some (.int .i64 z4) := (hb4.cell (p := ⟨b, _, none⟩) hblt).trans k3; clear h4 hb4))
            clear k0 k1 k2 k3 y4
            go_loopg [13, 14] (i + 1 - q) (fun gj t13 t14 wr' => ∃ (j : Nat) (v : Int), j + gj = i + 1 ∧ q ≤ j ∧ t14 = .int .i64 (j : Int) ∧ t13 = .int .i64 v ∧ IsLast f q j v ∧ Lives w p g n n (putsP n noneP (lst f (i + 1))) wr')
            case atStart => exact ⟨q, z4, by omega, Nat.le_refl _, rfl, rfl, by have := last_start f q; rw [HFq.out] at this; exact this, H4.out⟩
            case round =>
              rename Nat => g2
              obtain ⟨j, v, hj, hqj, rfl, rfl, hLa, hLj⟩ := hrel
              have HLa := Lib.hid hLa
              have HLj := Lib.hid hLj
              have HJ := Lib.hid hj
              clear hLa hLj hj
              by_cases hji : j ≤ i
              · have hjm : j < m := by omega
                obtain ⟨v1, v2, v3, v4, hfj, j0, j1, j2, j3⟩ := (HR.out.below HLj.out.2.2.2).named hjm
                obtain ⟨q0, q1, q2, -⟩ := (HR.out.below HLj.out.2.2.2).2 q hqm
                rw [HFq.out] at q0 q1 q2
                have HFj := Lib.hid hfj
                clear hfj
                cases hk : sameK v1 v2 v3 z1 z2 z3
                · have HK := Lib.hid ((sameK_iff (v1, v2, v3) (z1, z2, z3)).symm.trans hk)
                  go_wp2_with fail
                  go_quiet (fail)
                  go_wp2_with fail
                  have hj := HJ.out
                  go_roundg (g2 - 1)
                  case measure => omega
                  case rel => exact ⟨j + 1, v, by omega, by omega, by simp, rfl, last_miss HLa.out (by rw [HFj.out, HFq.out]; exact of_decide_eq_false HK.out), HLj.out.below (drewN_below _ _)⟩
                · have HK := Lib.hid ((sameK_iff (v1, v2, v3) (z1, z2, z3)).symm.trans hk)
                  go_wp2_with fail
                  go_quiet (fail)
                  go_wp2_with fail
                  have hj := HJ.out
                  go_roundg (g2 - 1)
                  case measure => omega
                  case rel => exact ⟨j + 1, v4, by omega, by omega, by simp, rfl, by
                                have := last_hit (f := f) hqj (by rw [HFj.out, HFq.out]; exact of_decide_eq_true HK.out)
                                rw [HFj.out] at this
                                exact this, HLj.out.below (drewN_below _ _)⟩
              · have hje : j = i + 1 := by have := HJ.out; omega
                subst hje
                have HV : Hid (gb = true → gv = v) := Lib.hid fun e => last_is (k := q) (by omega) (by rw [HFq.out, HG.out, e]) HLa.out
                clear hji
                cases gb
                · go_wp2_with fail
                  have hq := HQ.out
                  go_roundg (g1 - 1)
                  case measure => omega
                  case rel => exact ⟨q + 1, by omega, by simp, HLj.out⟩
                · have hv := HV.out rfl
                  subst hv
                  go_wp2_with fail
                  have hq := HQ.out
                  go_roundg (g1 - 1)
                  case measure => omega
                  case rel => exact ⟨q + 1, by omega, by simp, HLj.out⟩
          · have hqe : q = i := by have := HQ.out; omega
            subst hqe
            go_wp2_with fail
            have hi := HI.out
            go_roundg (g0 - 1)
            case measure => omega
            case rel => exact ⟨q + 1, by omega, by simp, HLq.out⟩
      · have hie : i = m := by have := HI.out; omega
        subst hie
        go_wp2_with (first
          | (go_at_call 8; ((with_reducible refine (alive_any _).mono ?_); rintro e w5 ⟨rfl, hb5⟩); have H5 := Lib.hid (HL.out.below hb5); clear hb5))
        go_ret
        exact ⟨rfl, H5.out.2.2.2⟩
end Go.Proofs.Ytchipmiklbnedab
