/- The contract of the document's Mark. -/
import Derived.Test.YtlddelnbjihhgaaNRefAny
import Derived.Test.YtlddelnbjihhgaaSMark
namespace Go.Proofs.Ytlddelnbjihhgaa
open Go.RowKit
attribute [local go_sem ↓] Go.wp_at_zero Go.wp_at_succ

/-- While the document marks: the arena's box, its nodes, and the row, new. -/
structure RMk (w : World) (lim : Nat) (A : Option Addr) (c : Nat) (L : List Nd) (bx g : Nat) (B : Nat → Bool) (W : World) : Prop where
  box : Blk W bx 27 #[.int .i64 lim, .slice A L.length c]
  ref : RefA W A c L
  row : Blk W g 4 (boolsA L.length B)
  low : Below w.heap.size w W
  new : w.heap.size ≤ g
section
variable {w W W1 : World} {lim c bx g : Nat} {A : Option Addr} {L : List Nd} {B C : Nat → Bool}
theorem RMk.below (h : RMk w lim A c L bx g B W) (hb : Below W.heap.size W W1) : RMk w lim A c L bx g B W1 :=
  ⟨h.box.below hb h.box.lt, h.ref.below hb, h.row.below hb h.row.lt, h.low.trans (hb.mono h.low.size), h.new⟩
/-- One more is marked. -/
theorem RMk.put (h : RMk w lim A c L bx g B W) {j : Nat} (hj : j < L.length) : RMk w lim A c L bx g (mark1 B (j : Int)) (W.setCell ⟨g, j, none⟩ (.bool true)) := by
  have ho : Only (fun i => i = g) W (W.setCell ⟨g, j, none⟩ (.bool true)) := Only.of_grown (grown_set W ⟨g, j, none⟩ _) (own := fun i => i = g) fun r e => by simpa using e.symm
  have hne := own_blk_ne h.ref.1 h.row (by decide)
  refine ⟨ho.blk h.box (Blk.ne_ h.box h.row (by decide)), ⟨ho.row h.ref.1 (fun g e h => hne (h ▸ e)), h.ref.2⟩, ?_, h.low.trans (ho.below h.low.size fun _ hi => hi ▸ h.new), h.new⟩
  rw [← boolsA_mark B hj]
  exact h.row.set_ j _
theorem RMk.out_ (h : RMk w lim A c L bx g B W) {r : Int} (hr : ¬ (0 ≤ r ∧ r < (L.length : Int))) : RMk w lim A c L bx g (mark1 B r) W :=
  ⟨h.box, h.ref, by rw [boolsA_out B hr]; exact h.row, h.low, h.new⟩
theorem RMk.at_ (h : RMk w lim A c L bx g B W) {k : Nat} (hk : k < L.length) : W.cell? ⟨g, k, none⟩ = some (.bool (B k)) := (h.row.cell k).trans (boolsA_at B hk)
set_option maxRecDepth 100000 in
set_option maxHeartbeats 6400000 in
theorem rmarks_any (hr : RefA w A c L) (hR : RightL L) {A2 : Option Addr} {m c2 : Nat} {f : Nat → Int} (hI : Ints w A2 m f) (hm : m ≤ 9223372036854775807) : Calls Try.prog 9 #[.agg #[.int .i64 lim, .slice A L.length c], .slice A2 m c2] w (RetMarks L (marksB L f m) w) := by
  have hmk := made_bools L.length hr.2
  have hfew := hr.2
  have hb1 := (Below.refl w.heap.size w).alloc (Nat.le_refl _) (.cells #[.int .i64 lim, .slice A L.length c] 27)
  have e1 := size_up (rfl : w.heap.size = w.heap.size) (.cells #[.int .i64 lim, .slice A L.length c] 27)
  have hb2 := hb1.alloc hb1.size (.cells (boolsA L.length fun _ => false) 4)
  have h0 : RMk w lim A c L w.heap.size (w.heap.size + 1) (rootsB f 0) ((w.alloc (.cells #[.int .i64 lim, .slice A L.length c] 27)).alloc (.cells (boolsA L.length fun _ => false) 4)) :=
    ⟨(Blk.new w _ _).up _, hr.below hb2, Blk.new_ e1 _ _, hb2, Nat.le_succ _⟩
  have H0 := Lib.hid h0
  have HI := Lib.hid hI
  have HR := Lib.hid hR
  obtain ⟨N, hN⟩ : ∃ N, L.length = N := ⟨_, rfl⟩
  have HN := Lib.hid hN
  rw [hN] at hmk hfew H0
  obtain ⟨B0, hB0⟩ : ∃ B0, rootsB f m = B0 := ⟨_, rfl⟩
  have HB0 := Lib.hid hB0
  rw [show marksB L f m = downB L B0 N by rw [← hN, ← hB0]; rfl]
  unfold RetMarks
  rw [HN.out]
  clear hr hR hI hb1 e1 hb2 h0 hN hB0
  go_enter Try.func9, Try.ntmps9
  go_wp2_with fail
  obtain ⟨bx, hbx⟩ : ∃ bx, w.heap.size = bx := ⟨_, rfl⟩
  obtain ⟨g, hg⟩ : ∃ g, bx + 1 = g := ⟨_, rfl⟩
  have HG : Hid (w.heap.size ≤ g) := Lib.hid (by omega)
  rw [hbx, hg] at H0
  rw [hbx, hg]
  clear hbx hg hmk
  go_loopg [6] m (fun gk t6 wr => ∃ i : Nat, i + gk = m ∧ t6 = .int .i64 (i : Int) ∧ RMk w lim A c L bx g (rootsB f i) wr)
  case atStart => exact ⟨0, by omega, rfl, H0.out⟩
  case round =>
    clear H0
    rename Nat => g0
    obtain ⟨i, hi, rfl, hM⟩ := hrel
    have HM := Lib.hid hM
    have HI2 := Lib.hid hi
    clear hi
    by_cases him : i < m
    · obtain ⟨b, off, x, hA, hblt, hf, k0⟩ := (HI.out.below hM.low).at_ him
      have HF := Lib.hid (show mark1 (rootsB f i) x = rootsB f (i + 1) by rw [← hf]; rfl)
      subst hA
      clear hf
      by_cases hx0 : 0 ≤ x
      · by_cases hx1 : x < (N : Int)
        · obtain ⟨j, rfl⟩ : ∃ j : Nat, x = (j : Int) := ⟨x.toNat, by omega⟩
          have hj : j < L.length := by have := HN.out; omega
          have HP := Lib.hid (hM.put hj)
          have q0 := hM.at_ hj
          have q1 := hM.row.frozen j
          have q2 := hM.row.lt
          have d0 : decide ((j : Int) < (N : Int)) = true := decide_eq_true hx1
          have d1 : decide (0 ≤ (j : Int)) = true := decide_eq_true hx0
          clear hM hj
          go_wp2_with fail
          have hi := HI2.out
          go_roundg (g0 - 1)
          case measure => omega
          case rel => exact ⟨i + 1, by omega, by simp, by rw [← HF.out]; exact HP.out⟩
        · have HP := Lib.hid (hM.out_ (r := x) (by have := HN.out; omega))
          have d0 : decide (x < (N : Int)) = false := decide_eq_false hx1
          have d1 : decide (0 ≤ x) = true := decide_eq_true hx0
          clear hM
          go_wp2_with fail
          have hi := HI2.out
          go_roundg (g0 - 1)
          case measure => omega
          case rel => exact ⟨i + 1, by omega, by simp, by rw [← HF.out]; exact HP.out⟩
      · have HP := Lib.hid (hM.out_ (r := x) (by omega))
        have d1 : decide (0 ≤ x) = false := decide_eq_false hx0
        clear hM
        go_wp2_with fail
        have hi := HI2.out
        go_roundg (g0 - 1)
        case measure => omega
        case rel => exact ⟨i + 1, by omega, by simp, by rw [← HF.out]; exact HP.out⟩
    · have hie : m = i := by have := HI2.out; omega
      subst hie
      rw [HB0.out] at hM HM
      have q0 : wr.cell? ⟨bx, 1, none⟩ = some (.slice A N c) := by have := hM.box.cell 1; rw [HN.out] at this; exact this
      clear hM HI2 HI
      go_wp2_with fail
      obtain ⟨wo, hwo⟩ : ∃ wo, wo = wr := ⟨_, rfl⟩
      subst hwo
      clear q0
      go_loopg [7] N (fun gk t7 wr => ∃ d : Nat, d + gk = N ∧ t7 = .int .i64 ((N : Int) - 1 - (d : Int)) ∧ RMk w lim A c L bx g (downB L B0 d) wr)
      case atStart => exact ⟨0, by omega, congrArg (Value.int .i64) (by omega), HM.out⟩
      case round =>
        clear HM
        rename Nat => g1
        obtain ⟨d, hd, rfl, hM⟩ := hrel
        have HM := Lib.hid hM
        have HD := Lib.hid hd
        clear hd
        by_cases hdn : d < N
        · obtain ⟨k, hk⟩ : ∃ k, L.length - 1 - d = k := ⟨_, rfl⟩
          have hkl : k < L.length := by have := HN.out; omega
          obtain ⟨x1, x2, x3, hx⟩ : ∃ x1 x2 x3, L[k]? = some (x1, x2, x3) := ⟨_, _, _, List.getElem?_eq_getElem hkl⟩
          have hkN : k < N := by rw [← HN.out]; exact hkl
          have ek : (N : Int) - 1 - (d : Int) = (k : Int) := by have := HN.out; omega
          obtain ⟨-, -, ⟨hl2, -⟩, hl3, -⟩ := HR.out.1 k _ hx
          rw [hasP_iff] at hl2 hl3
          dsimp only at hl2 hl3
          have hs := down_step (B := B0) hk hx
          rw [ek]
          obtain ⟨gn, hAn, hgn, n0, n1, n2⟩ := hM.ref.node hx
          subst hAn
          have hcap := hM.ref.cap
          rw [HN.out] at hcap
          have q0 : wr.cell? ⟨bx, 1, none⟩ = some (.slice (some ⟨gn, 0, none⟩) N c) := by have := hM.box.cell 1; rw [HN.out] at this; exact this
          have q1 := hM.at_ hkl
          have q2 := hM.row.lt
          have q3 := hM.box.lt
          have hbn := (Below.refl wr.heap.size wr).alloc (Nat.le_refl _) (.cells #[.int .i64 x1, .int .i64 x2, .int .i64 x3] 59)
          have hM1 := hM.below hbn
          have HBn := Blk.new wr 59 #[.int .i64 x1, .int .i64 x2, .int .i64 x3]
          have hng : wr.heap.size ≠ g := by omega
          cases hb : downB L B0 d k with
          | false =>
            rw [if_neg (by rw [hb]; simp)] at hs
            have HS := Lib.hid hs
            have HM1 := Lib.hid hM1
            rw [hb] at q1
            clear hk hx hs hb hbn HBn hM hM1 hl2 hl3 hkl hng
            go_wp2_with fail
            have hd := HD.out
            go_roundg (g1 - 1)
            case measure => omega
            case rel => exact ⟨d + 1, by omega, congrArg (Value.int .i64) (by omega), by rw [HS.out]; exact HM1.out⟩
          | true =>
            rw [if_pos hb] at hs
            have HS := Lib.hid hs
            rw [hb] at q1
            clear hs
            by_cases hy : 0 ≤ x2
            · obtain ⟨j, rfl⟩ : ∃ j : Nat, x2 = (j : Int) := ⟨x2.toNat, by omega⟩
              have hj : j < L.length := by omega
              have HP := Lib.hid ((hM.put hj).below ((Below.refl (wr.setCell ⟨g, j, none⟩ (.bool true)).heap.size (wr.setCell ⟨g, j, none⟩ (.bool true))).alloc (Nat.le_refl _) (.cells #[.int .i64 x1, .int .i64 (j : Int), .int .i64 x3] 59)))
              have hBV := Blk.new_ (show (wr.setCell ⟨g, j, none⟩ (.bool true)).heap.size = wr.heap.size by simp) 59 #[.int .i64 x1, .int .i64 (j : Int), .int .i64 x3]
              have v0 := HP.out.at_ hkl
              have hm1 : mark1 (downB L B0 d) (j : Int) k = true := mark1_iff.2 (.inl hb)
              rw [hm1] at v0
              have p0 := hM.at_ hj
              have p1 := hM.row.frozen j
              have d1 : decide (0 ≤ (j : Int)) = true := decide_eq_true hy
              have hjN : j < N := by rw [← HN.out]; exact hj
              clear hk hx hb hbn HBn hM hM1 hm1 hj
              go_upto_region 13 with fail
              obtain ⟨V, hV⟩ : ∃ V, (wr.setCell ⟨g, j, none⟩ (.bool true)).alloc (.cells #[.int .i64 x1, .int .i64 (j : Int), .int .i64 x3] 59) = V := ⟨_, rfl⟩
              rw [hV] at HP v0 hBV ⊢
              have v1 : V.cell? ⟨wr.heap.size, 2, none⟩ = some (.int .i64 x3) := hBV.cell 2
              have v2 := HP.out.row.lt
              clear hV hBV p0 p1 q0 q1 n0 n1 n2
              by_cases hy0 : 0 ≤ x3
              · obtain ⟨j3, rfl⟩ : ∃ j3 : Nat, x3 = (j3 : Int) := ⟨x3.toNat, by omega⟩
                have hj3 : j3 < L.length := by omega
                have HQ := Lib.hid (HP.out.put hj3)
                have u0 := HP.out.at_ hj3
                have u1 := HP.out.row.frozen j3
                have d2 : decide (0 ≤ (j3 : Int)) = true := decide_eq_true hy0
                have hj3N : j3 < N := by rw [← HN.out]; exact hj3
                clear hj3 hl2 hl3 hkl
                go_wp2_with fail
                have hd := HD.out
                go_roundg (g1 - 1)
                case measure => omega
                case rel => exact ⟨d + 1, by omega, congrArg (Value.int .i64) (by omega), by rw [HS.out]; exact HQ.out⟩
              · have HQ := Lib.hid (HP.out.out_ (r := x3) (by omega))
                have d2 : decide (0 ≤ x3) = false := decide_eq_false hy0
                clear hl2 hl3 hkl
                go_wp2_with fail
                have hd := HD.out
                go_roundg (g1 - 1)
                case measure => omega
                case rel => exact ⟨d + 1, by omega, congrArg (Value.int .i64) (by omega), by rw [HS.out]; exact HQ.out⟩
            · have HP := Lib.hid (hM1.out_ (r := x2) (by omega))
              have hm1 : mark1 (downB L B0 d) x2 k = true := mark1_iff.2 (.inl hb)
              have v0 := HP.out.at_ hkl
              rw [hm1] at v0
              have d1 : decide (0 ≤ x2) = false := decide_eq_false hy
              clear hk hx hb hbn hM hM1 hm1
              go_upto_region 13 with fail
              obtain ⟨V, hV⟩ : ∃ V, wr.alloc (.cells #[.int .i64 x1, .int .i64 x2, .int .i64 x3] 59) = V := ⟨_, rfl⟩
              rw [hV] at HP v0 HBn ⊢
              have v1 : V.cell? ⟨wr.heap.size, 2, none⟩ = some (.int .i64 x3) := HBn.cell 2
              have v2 := HP.out.row.lt
              clear hV HBn q0 q1 n0 n1 n2
              by_cases hy0 : 0 ≤ x3
              · obtain ⟨j3, rfl⟩ : ∃ j3 : Nat, x3 = (j3 : Int) := ⟨x3.toNat, by omega⟩
                have hj3 : j3 < L.length := by omega
                have HQ := Lib.hid (HP.out.put hj3)
                have u0 := HP.out.at_ hj3
                have u1 := HP.out.row.frozen j3
                have d2 : decide (0 ≤ (j3 : Int)) = true := decide_eq_true hy0
                have hj3N : j3 < N := by rw [← HN.out]; exact hj3
                clear hj3 hl2 hl3 hkl
                go_wp2_with fail
                have hd := HD.out
                go_roundg (g1 - 1)
                case measure => omega
                case rel => exact ⟨d + 1, by omega, congrArg (Value.int .i64) (by omega), by rw [HS.out]; exact HQ.out⟩
              · have HQ := Lib.hid (HP.out.out_ (r := x3) (by omega))
                have d2 : decide (0 ≤ x3) = false := decide_eq_false hy0
                clear hl2 hl3 hkl
                go_wp2_with fail
                have hd := HD.out
                go_roundg (g1 - 1)
                case measure => omega
                case rel => exact ⟨d + 1, by omega, congrArg (Value.int .i64) (by omega), by rw [HS.out]; exact HQ.out⟩
        · have hde : N = d := by have := HD.out; omega
          subst hde
          rw [show (N : Int) - 1 - (N : Int) = -1 by omega]
          clear hM
          go_wp2_with fail
          go_ret
          exact ⟨g, rfl, by have := HM.out.row; rw [HN.out] at this; exact this, HG.out, HM.out.low⟩
end
end Go.Proofs.Ytlddelnbjihhgaa
