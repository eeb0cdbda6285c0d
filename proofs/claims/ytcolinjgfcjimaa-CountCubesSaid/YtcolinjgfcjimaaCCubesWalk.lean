/- The walk of CountCubes. -/
import Derived.Test.YtcolinjgfcjimaaCLawRef
import Derived.Test.YtcolinjgfcjimaaCFitsWalk
namespace Go.Proofs.Ytcolinjgfcjimaa
open Go.RowKit
attribute [local go_sem ↓] Go.wp_at_zero Go.wp_at_succ

set_option maxRecDepth 100000 in
set_option maxHeartbeats 6400000 in
theorem cubes_walk (f : Nat → Nd) (A : Option Addr) (m c : Nat) (r val : Int) (w : World) (_ : m ≤ 9223372036854775807) (_ : m ≤ c) (hO : Ops w A m f) (_ : -9223372036854775808 ≤ r ∧ r ≤ 9223372036854775807) (_ : -9223372036854775808 ≤ val ∧ val ≤ 9223372036854775807) :
    Calls Try.prog 5 #[.slice A m c, .int .i64 r, .int .i64 val] w fun e w' => e = .returned (.bool true) ∧ Below w.heap.size w w' := by
  have HB0 := Lib.hid (Below.refl w.heap.size w)
  by_cases hm : 60 < m
  · have HF := Lib.hid (build_no (A := A) (c := c) HB0.out hm)
    have hd : decide (24 < (m : Int)) = true := decide_eq_true (by omega)
    go_enter Try.func5, Try.ntmps5
    go_wp2_with (first
      | (go_at_call 9; ((with_reducible refine HF.out.mono ?_); rintro e w1 ⟨rfl, hb1⟩); have HB1 := Lib.hid (hb1.trans ((Below.refl _ _).alloc hb1.size (.cells #[.int .i64 60, .slice none 0 0] 27))); clear hb1)
      | (go_at_call 11; ((with_reducible refine (alive_in HB1.out).mono ?_); rintro e w2 ⟨rfl, hb2⟩)))
    go_ret
    exact ⟨rfl, hb2⟩
  · have HF := Lib.hid (build_lr (c := c) HB0.out (by omega) hO)
    obtain ⟨L, hL⟩ : ∃ L, scr 60 [] f m = L := ⟨_, rfl⟩
    rw [hL] at HF
    clear hL
    by_cases hq : 24 < m
    · have HQ := Lib.hid (few_is (A := A) (c := c) (decide_eq_false (show ¬ m ≤ 24 by omega)))
      have hd : decide (24 < (m : Int)) = true := decide_eq_true (by omega)
      go_enter Try.func5, Try.ntmps5
      go_wp2_with (first
        | (go_at_call 9; ((with_reducible refine HF.out.mono ?_); rintro e w1 ⟨p, A', c', rfl, h1⟩); have H1 := Lib.hid h1.box; clear h1)
        | (go_at_call 10; ((with_reducible refine (HQ.out _).mono ?_); rintro e w9 ⟨rfl, rfl⟩))
        | (go_at_call 11; ((with_reducible refine (lx_alive H1.out).mono ?_); rintro e w2 ⟨rfl, h2⟩)))
      go_ret
      exact ⟨rfl, h2.lv.low⟩
    · have HQ := Lib.hid (few_is (A := A) (c := c) (decide_eq_true (show m ≤ 24 by omega)))
      obtain ⟨C, hC⟩ : ∃ C, cubesP L val r = C := ⟨_, rfl⟩
      have HC := Lib.hid hC
      clear hC
      go_enter Try.func5, Try.ntmps5
      go_wp2_with (first
        | (go_at_call 9; ((with_reducible refine HF.out.mono ?_); rintro e w1 ⟨p, A', c', rfl, h1⟩); have H1 := Lib.hid h1.box; clear h1)
        | (go_at_call 10; ((with_reducible refine (HQ.out _).mono ?_); rintro e w9 ⟨rfl, rfl⟩)))
      have K1 := Lib.hid H1.out.2
      obtain ⟨W5, hW5⟩ : ∃ W5, w1.alloc (.cells #[.int .i64 60, .slice A' L.length c'] 27) = W5 := ⟨_, rfl⟩
      obtain ⟨nb, hnb⟩ : ∃ nb, w1.heap.size = nb := ⟨_, rfl⟩
      rw [hW5, hnb] at H1 K1
      rw [hW5, hnb]
      clear hW5 hnb
      have H1 := Lib.hid (H1.out.below (Below.refl W5.heap.size W5).drew)
      have K1 := Lib.hid H1.out.2
      go_region_held3 (fun w => nb < w.heap.size ∧ w.cell? ⟨nb, 0, none⟩ = some (.int .i64 60) ∧ w.cell? ⟨nb, 1, none⟩ = some (.slice A' L.length c'))
        (first | (exact K1.out))
        (first
          | (go_at_call 22; ((with_reducible refine (lx_cubes H1.out HC.out).mono ?_); rintro e w2 ⟨Ac, cc, rfl, h2, k2⟩); have H2 := Lib.hid h2; have K1 := Lib.hid h2.2; have R2 := Lib.hid k2; clear h2 k2)
          | (go_at_call 23; ((with_reducible refine (lx_rcubes H2.out HC.out).mono ?_); rintro e w3 ⟨Aw, cw, rfl, h3, k3, b3⟩); have H3 := Lib.hid h3; have K1 := Lib.hid h3.2; have R3 := Lib.hid k3; have R4 := Lib.hid (R2.out.below b3); clear h3 k3 b3))
      have HN : Hid (C.length ≤ 4096) := Lib.hid (by
        rw [← HC.out]
        unfold cubesP
        split
        · exact Nat.le_trans (cubesOf_len _ _) (ways_few H3.out.lv.right _)
        · simp)
      obtain ⟨N, hN⟩ : ∃ N, C.length = N := ⟨_, rfl⟩
      rw [hN] at HN ⊢
      have HNe := Lib.hid hN
      have hN4 := HN.out
      clear hN
      go_wp2_with fail
      go_loopg [48] N (fun gk t48 wr => ∃ i : Nat, i + gk = N ∧ t48 = .int .i64 (i : Int) ∧ Lx w p L A' c' nb wr ∧ CRow wr Ac C ∧ CRow wr Aw C)
      case atStart => exact ⟨0, by omega, rfl, H3.out, R4.out, R3.out⟩
      case round =>
        rename Nat => g0
        obtain ⟨i, hi, rfl, hB, hK, hM⟩ := hrel
        have hdr := (Below.refl wr.heap.size wr).drew
        have HB := Lib.hid hB
        have HBd := Lib.hid (hB.below hdr)
        have HKd := Lib.hid (hK.below hdr)
        have HMd := Lib.hid (hM.below hdr)
        have HI := Lib.hid hi
        by_cases him : i < N
        · obtain ⟨x, hx⟩ : ∃ x, C[i]? = some x := ⟨_, List.getElem?_eq_getElem (by have := HNe.out; omega)⟩
          obtain ⟨g, rfl, hg, q0, q1⟩ := hK i x hx
          obtain ⟨g2, rfl, hg2, q2, q3⟩ := hM i x hx
          obtain ⟨x1, x2⟩ := x
          dsimp only at q0 q1 q2 q3
          clear hx hB hK hM hdr hi
          go_wp2_with fail
          go_region
          go_wp2_with fail
          have hi := HI.out
          go_roundg (g0 - 1)
          case measure => omega
          case rel => exact ⟨i + 1, by omega, by simp, HBd.out, HKd.out, HMd.out⟩
        · have hie : i = N := by have := HI.out; omega
          subst hie
          clear hB hK hM hdr hi
          go_wp2_with (first
            | (go_at_call 11; ((with_reducible refine (lx_alive HB.out).mono ?_); rintro e w4 ⟨rfl, h4⟩)))
          go_ret
          exact ⟨rfl, h4.lv.low⟩
end Go.Proofs.Ytcolinjgfcjimaa
