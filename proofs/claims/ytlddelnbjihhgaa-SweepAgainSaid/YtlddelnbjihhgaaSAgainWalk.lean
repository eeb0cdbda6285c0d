/- The walk of SweepAgain. -/
import Derived.Test.YtlddelnbjihhgaaSLawC
namespace Go.Proofs.Ytlddelnbjihhgaa
open Go.RowKit
attribute [local go_sem ↓] Go.wp_at_zero Go.wp_at_succ

theorem sameN_self (a b c : Int) : sameN a b c a b c = true := by unfold sameN; simp
/-- Behind the second Compact, which comes to the same. -/
structure Ce (w : World) (p : Nat) (A : Option Addr) (c : Nat) (L : List Nd) (q : Nat) (M : List Nd) (rg m : Nat) (R : List Int) (q2 rg2 : Nat) (W : World) : Prop where
  cd : Cd w p A c L q M rg m R 60 W
  dst2 : ∃ own : Nat → Prop, Arena W own q2 60 M
  row2 : Blk W rg2 3 (intsR m R)
section
variable {w W W1 : World} {p c q rg m q2 rg2 : Nat} {A : Option Addr} {L M : List Nd} {R : List Int} {f : Nat → Int}
theorem Ce.below (h : Ce w p A c L q M rg m R q2 rg2 W) (hb : Below W.heap.size W W1) : Ce w p A c L q M rg m R q2 rg2 W1 := by
  obtain ⟨own, hd⟩ := h.dst2
  exact ⟨h.cd.below hb, ⟨own, hd.below hb⟩, h.row2.below hb h.row2.lt⟩
theorem cd_again (h : Cd w p A c L q M rg m R 60 W) (hcm : cmpP 60 L f m = (M, R, 0)) (hal : ∀ j, j < m → hasP L.length (f j) = true) (hm : m ≤ 30) (hL : L.length ≤ 40) :
    Calls Try.prog 11 #[.pointer (some ⟨q, 0, none⟩), .slice (some ⟨rg, 0, none⟩) m m, .int .i64 60] W fun e w' => ∃ q2 rg2, e = .returned (.tuple #[.pointer (some ⟨q2, 0, none⟩), .slice (some ⟨rg2, 0, none⟩) m m, .nilIface]) ∧ Ce w p A c L q M rg m R q2 rg2 w' := by
  have hR := h.sw.right
  obtain ⟨own, hA⟩ := h.dst
  have hl := came_len (cmp_came hR hcm)
  simp at hl
  refine (comp_yes (c := m) hA (ints_of_row h.row) hm (by omega) (fun j hj => (cmp_has hR hal hcm j hj).1) (l := 60) (by omega) rfl).mono fun e w' hr => ?_
  rw [show (60 : Int).toNat = 60 from rfl, (cmp_again hR hal hcm m (Nat.le_refl _)).trans hcm] at hr
  rcases hr with ⟨-, q2, rg2, he, hb2, own2, k1, -, k2, -⟩ | ⟨h0, -⟩
  · exact ⟨q2, rg2, he, h.below hb2, ⟨own2, k1⟩, k2⟩
  · exact absurd rfl h0
theorem ce_len2 (h : Ce w p A c L q M rg m R q2 rg2 W) {K : Nat} (hK : M.length = K) : Calls Try.prog 13 #[.pointer (some ⟨q2, 0, none⟩)] W (RetW (.int .i64 (K : Int)) W) := by
  obtain ⟨own, hA⟩ := h.dst2
  rw [← hK]; exact arena_len hA
theorem ce_len1 (h : Ce w p A c L q M rg m R q2 rg2 W) {K : Nat} (hK : M.length = K) : Calls Try.prog 13 #[.pointer (some ⟨q, 0, none⟩)] W (RetW (.int .i64 (K : Int)) W) := by
  obtain ⟨own, hA⟩ := h.cd.dst
  rw [← hK]; exact arena_len hA
theorem ce_len0 (h : Ce w p A c L q M rg m R q2 rg2 W) {K : Nat} (hK : L.length = K) : Calls Try.prog 13 #[.pointer (some ⟨p, 0, none⟩)] W (RetW (.int .i64 (K : Int)) W) := sw_len h.cd.sw hK
theorem ce_dead0 (h : Ce w p A c L q M rg m R q2 rg2 W) {N m1 c1 D : Nat} {A1 : Option Addr} {f1 : Nat → Int} {B : Nat → Bool} (hN : L.length = N) (hB : marksB L f1 m1 = B) (hD : deadN B N = D) (hI : Ints W A1 m1 f1) (hm : m1 ≤ 9223372036854775807) : Calls Try.prog 10 #[.pointer (some ⟨p, 0, none⟩), .slice A1 m1 c1] W
    fun e w' => e = .returned (.int .i64 (D : Int)) ∧ Ce w p A c L q M rg m R q2 rg2 w' := by
  subst hN; subst hB; subst hD
  obtain ⟨own, hA, -⟩ := h.cd.sw.1
  exact (dead_any hA hI hm).mono fun _ _ ⟨h1, h2⟩ => ⟨h1, h.below h2⟩
theorem ce_dead1 (h : Ce w p A c L q M rg m R q2 rg2 W) {K D : Nat} {B : Nat → Bool} (hK : M.length = K) (hB : marksB M (fun j => R.getD j 0) m = B) (hD : deadN B K = D) (hm : m ≤ 30) : Calls Try.prog 10 #[.pointer (some ⟨q, 0, none⟩), .slice (some ⟨rg, 0, none⟩) m m] W
    fun e w' => e = .returned (.int .i64 (D : Int)) ∧ Ce w p A c L q M rg m R q2 rg2 w' := by
  subst hK; subst hB; subst hD
  obtain ⟨own, hA⟩ := h.cd.dst
  exact (dead_any hA (ints_of_row h.cd.row) (by omega)).mono fun _ _ ⟨h1, h2⟩ => ⟨h1, h.below h2⟩
theorem ce_get1 (h : Ce w p A c L q M rg m R q2 rg2 W) {k : Nat} {x1 x2 x3 : Int} (hx : M[k]? = some (x1, x2, x3)) : Calls Try.prog 14 #[.pointer (some ⟨q, 0, none⟩), .int .i64 (k : Int)] W (RetGetS x1 x2 x3 W) := by
  obtain ⟨own, hA⟩ := h.cd.dst
  exact arena_get hA hx
theorem ce_get2 (h : Ce w p A c L q M rg m R q2 rg2 W) {k : Nat} {x1 x2 x3 : Int} (hx : M[k]? = some (x1, x2, x3)) : Calls Try.prog 14 #[.pointer (some ⟨q2, 0, none⟩), .int .i64 (k : Int)] W (RetGetS x1 x2 x3 W) := by
  obtain ⟨own, hA⟩ := h.dst2
  exact arena_get hA hx
theorem ce_alive (h : Ce w p A c L q M rg m R q2 rg2 W) : Calls Try.prog 7 #[] W fun e w' => e = .returned (.bool true) ∧ Below w.heap.size w w' := alive_low h.cd.sw.low
end
attribute [local go_sem ↓] neN eqgN in
set_option maxRecDepth 100000 in
set_option maxHeartbeats 6400000 in
theorem again_walk (f0 : Nat → Nd) (A0 : Option Addr) (m0 c0 : Nat) (f1 : Nat → Int) (A1 : Option Addr) (m1 c1 : Nat) (w : World) (_ : m0 ≤ 9223372036854775807) (_ : m0 ≤ c0) (hO : Ops w A0 m0 f0) (_ : m1 ≤ 9223372036854775807) (_ : m1 ≤ c1) (hI : Ints w A1 m1 f1) :
    Calls Try.prog 5 #[.slice A0 m0 c0, .slice A1 m1 c1] w fun e w' => e = .returned (.bool true) ∧ Below w.heap.size w w' := by
  by_cases hm : 40 < m0
  · have HF := Lib.hid (build_far (A := A0) (c := c0) hm w)
    have d0 : decide ((40 : Int) < (m0 : Int)) = true := decide_eq_true (by omega)
    clear hI hO
    go_enter Try.func5, Try.ntmps5
    go_wp2_with (first
      | (go_at_call 6; ((with_reducible refine HF.out.mono ?_); rintro e w1 ⟨rfl, hb1⟩); have HB1 := Lib.hid (hb1.trans ((Below.refl _ _).alloc hb1.size (.cells #[.int .i64 60, .slice none 0 0] 27))); clear hb1)
      | (go_at_call 7; ((with_reducible refine (alive_low HB1.out).mono ?_); rintro e w2 ⟨rfl, hb2⟩)))
    go_ret
    exact ⟨rfl, hb2⟩
  · have HF := Lib.hid (build_sw (c0 := c0) (by omega) hO)
    have hfew := scr_few f0 (m := m0) (by omega)
    obtain ⟨L, hL⟩ : ∃ L, scr 60 [] f0 m0 = L := ⟨_, rfl⟩
    rw [hL] at HF hfew
    have HL40 := Lib.hid hfew
    obtain ⟨N, hN⟩ : ∃ N, L.length = N := ⟨_, rfl⟩
    have HN := Lib.hid hN
    rw [hN] at HF hfew
    have HI := Lib.hid hI
    have d0 : decide ((40 : Int) < (m0 : Int)) = false := decide_eq_false (by omega)
    clear hL hN hO hI
    by_cases hq : 30 < m1
    · have d1 : decide ((30 : Int) < (m1 : Int)) = true := decide_eq_true (by omega)
      go_enter Try.func5, Try.ntmps5
      go_wp2_with (first
        | (go_at_call 6; ((with_reducible refine HF.out.mono ?_); rintro e w1 ⟨p, A, c, rfl, h1⟩); have H1 := Lib.hid (h1.below ((Below.refl _ _).alloc (Nat.le_refl _) (.cells #[.int .i64 60, .slice A N c] 27))); clear h1)
        | (go_at_call 7; ((with_reducible refine (alive_sw H1.out).mono ?_); rintro e w2 ⟨rfl, h2, -⟩)))
      go_ret
      exact ⟨rfl, h2.low⟩
    · have d1 : decide ((30 : Int) < (m1 : Int)) = false := decide_eq_false (by omega)
      have hm30 : m1 ≤ 30 := by omega
      go_enter Try.func5, Try.ntmps5
      go_upto_region 7 with (first
        | (go_at_call 6; ((with_reducible refine HF.out.mono ?_); rintro e w1 ⟨p, A, c, rfl, h1⟩); have H1 := Lib.hid (h1.below ((Below.refl _ _).alloc (Nat.le_refl _) (.cells #[.int .i64 60, .slice A N c] 27))); clear h1)
        | (go_at_call 11; ((with_reducible refine (sw_comp H1.out HL40.out (HI.out.below H1.out.low) hm30 (by omega) rfl).mono ?_); rintro e w2 (⟨q, rg, M, R, rfl, hc2, hcm, hal, -⟩ | ⟨rfl, h2, -, -⟩ | ⟨b2, v2, cc, rfl, h2, -, -, -, -, -⟩)))
        | (go_at_call 7; ((with_reducible refine (alive_sw h2).mono ?_); rintro e w3 ⟨rfl, h3, -⟩)))
      · have HDd := cmp_dead hc2.sw.right hal hcm
        have HC2 := Lib.hid hc2
        have HA2 := Lib.hid (cd_again hc2 hcm hal hm30 HL40.out)
        obtain ⟨K, hK⟩ : ∃ K, M.length = K := ⟨_, rfl⟩
        obtain ⟨B, hB⟩ : ∃ B, marksB L f1 m1 = B := ⟨_, rfl⟩
        obtain ⟨B2, hB2⟩ : ∃ B2, marksB M (fun j => R.getD j 0) m1 = B2 := ⟨_, rfl⟩
        rw [hK, hB, hB2, HN.out] at HDd
        obtain ⟨D, hD⟩ : ∃ D, deadN B N = D := ⟨_, rfl⟩
        rw [hD] at HDd
        obtain ⟨hKD, hD2⟩ := HDd
        have HK := Lib.hid hK
        have HB := Lib.hid hB
        have HB2 := Lib.hid hB2
        have HD := Lib.hid hD
        have HD2 := Lib.hid hD2
        have ek : (N : Int) - (D : Int) = (K : Int) := by omega
        have hK40 : K ≤ 40 := by omega
        clear hc2 hcm hal hK hB hB2 hD hD2 hKD
        go_upto_region 10 with (first
          | (go_at_call 11; ((with_reducible refine HA2.out.mono ?_); rintro e w4 ⟨q2, rg2, rfl, h4⟩); have H4 := Lib.hid h4; clear h4)
          | (go_at_call 13; ((with_reducible refine (ce_len2 H4.out HK.out).mono ?_); rintro e w9 ⟨rfl, rfl⟩))
          | (go_at_call 13; ((with_reducible refine (ce_len1 H4.out HK.out).mono ?_); rintro e w9 ⟨rfl, rfl⟩))
          | (go_at_call 13; ((with_reducible refine (ce_len0 H4.out HN.out).mono ?_); rintro e w9 ⟨rfl, rfl⟩))
          | (go_at_call 10; ((with_reducible refine (ce_dead0 H4.out HN.out HB.out HD.out (HI.out.below H4.out.cd.sw.low) (Nat.le_trans hm30 (by omega))).mono ?_); rintro e w5 ⟨rfl, h5⟩); have H5 := Lib.hid h5; clear h5)
          | (go_at_call 10; ((with_reducible refine (ce_dead1 H5.out HK.out HB2.out HD2.out hm30).mono ?_); rintro e w6 ⟨rfl, h6⟩); have H6 := Lib.hid h6; clear h6))
        clear ek HA2 HC2
        go_wp2_with fail
        go_loopg [100] m1 (fun gk t100 wr => ∃ i : Nat, i + gk = m1 ∧ t100 = .int .i64 (i : Int) ∧ Ce w p A c L q M rg m1 R q2 rg2 wr)
        case atStart => exact ⟨0, by omega, rfl, H6.out⟩
        case round =>
          clear H6 H5 H4
          rename Nat => g0
          obtain ⟨i, hi, rfl, hC⟩ := hrel
          have HC := Lib.hid hC
          have HI2 := Lib.hid hi
          clear hi
          by_cases him : i < m1
          · have k1 := hC.cd.at_ him
            have k2 := (hC.row2.cell i).trans (intsR_at R him)
            have l1 := hC.cd.row.lt
            have l2 := hC.row2.lt
            obtain ⟨y, hy⟩ : ∃ y, R.getD i 0 = y := ⟨_, rfl⟩
            rw [hy] at k1 k2
            clear hy hC
            go_wp2_with fail
            go_quiet (fail)
            go_wp2_with fail
            have hi := HI2.out
            go_roundg (g0 - 1)
            case measure => omega
            case rel => exact ⟨i + 1, by omega, by simp, HC.out.below (drewN_below _ _)⟩
          · have hie : m1 = i := by have := HI2.out; omega
            subst hie
            clear hC
            go_wp2_with (first
              | (go_at_call 13; ((with_reducible refine (ce_len1 HC.out HK.out).mono ?_); rintro e w9 ⟨rfl, rfl⟩)))
            obtain ⟨wo, hwo⟩ : ∃ wo, wo = wr := ⟨_, rfl⟩
            subst hwo
            go_loopg [115] K (fun gk t115 wr => ∃ k : Nat, k + gk = K ∧ t115 = .int .i64 (k : Int) ∧ Ce w p A c L q M rg m1 R q2 rg2 wr)
            case atStart => exact ⟨0, by omega, rfl, HC.out⟩
            case round =>
              clear HC
              rename Nat => g1
              obtain ⟨k, hk, rfl, hC⟩ := hrel
              have HC := Lib.hid hC
              have HI3 := Lib.hid hk
              clear hk hC
              by_cases hkn : k < K
              · obtain ⟨x1, x2, x3, hx⟩ : ∃ x1 x2 x3, M[k]? = some (x1, x2, x3) := ⟨_, _, _, List.getElem?_eq_getElem (by have := HK.out; omega)⟩
                have HX := Lib.hid hx
                have hs := sameN_self x1 x2 x3
                clear hx
                go_wp2_with (first
                  | (go_at_call 14; ((with_reducible refine (ce_get1 HC.out HX.out).mono ?_); rintro e w3 ⟨rfl, hb3⟩); have H3 := Lib.hid ((HC.out.below hb3).below ((Below.refl _ _).alloc (Nat.le_refl _) (.cells #[.int .i64 x1, .int .i64 x2, .int .i64 x3] 45))); have X3 := Lib.hid (Blk.new w3 45 #[.int .i64 x1, .int .i64 x2, .int .i64 x3]); clear hb3)
                  | (go_at_call 14; ((with_reducible refine (ce_get2 H3.out HX.out).mono ?_); rintro e w4 ⟨rfl, hb4⟩); have H4 := Lib.hid ((H3.out.below hb4).below ((Below.refl _ _).alloc (Nat.le_refl _) (.cells #[.int .i64 x1, .int .i64 x2, .int .i64 x3] 45))); have X4 := X3.out.below hb4 X3.out.lt; have q0 : w4.cell? ⟨w3.heap.size, 0, none⟩ = some (.int .i64 x1) := X4.cell 0; have q1 : w4.cell? ⟨w3.heap.size, 1, none⟩ = some (.int .i64 x2) := X4.cell 1; have q2' : w4.cell? ⟨w3.heap.size, 2, none⟩ = some (.int .i64 x3) := X4.cell 2; have q3 := X4.lt; clear hb4 X4))
                have hk := HI3.out
                go_roundg (g1 - 1)
                case measure => omega
                case rel => exact ⟨k + 1, by omega, by simp, H4.out⟩
              · have hke : K = k := by have := HI3.out; omega
                subst hke
                go_wp2_with (first
                  | (go_at_call 7; ((with_reducible refine (ce_alive HC.out).mono ?_); rintro e w5 ⟨rfl, h5⟩)))
                go_ret
                exact ⟨rfl, h5⟩
      · go_ret
        exact ⟨rfl, h3.low⟩
      · go_ret
        exact ⟨rfl, h3.low⟩
end Go.Proofs.Ytlddelnbjihhgaa
