/- The walk of SweepWalks. -/
import Derived.Test.YtlddelnbjihhgaaSLawC
namespace Go.Proofs.Ytlddelnbjihhgaa
open Go.RowKit
attribute [local go_sem ↓] Go.wp_at_zero Go.wp_at_succ

section
variable {w W W1 : World} {p c q rg m lim : Nat} {A : Option Addr} {L M : List Nd} {R : List Int}
theorem cd_walkB (h : Cd w p A c L q M rg m R lim W) {b : Nat} {y z : Int} (hz : endP M b y = z) (hb : b < 18446744073709551616) : Calls Try.prog 12 #[.pointer (some ⟨q, 0, none⟩), .int .i64 y, .int .u64 (b : Int)] W fun e w' => e = .returned (.int .i64 z) ∧ Cd w p A c L q M rg m R lim w' := by
  obtain ⟨own, hA⟩ := h.dst
  rw [← hz]
  exact (arena_walk hA hb).mono fun _ _ ⟨h1, h2⟩ => ⟨h1, h.below h2⟩
theorem cd_walkA (h : Cd w p A c L q M rg m R lim W) {b : Nat} {y z : Int} (hz : endP L b y = z) (hb : b < 18446744073709551616) : Calls Try.prog 12 #[.pointer (some ⟨p, 0, none⟩), .int .i64 y, .int .u64 (b : Int)] W fun e w' => e = .returned (.int .i64 z) ∧ Cd w p A c L q M rg m R lim w' := by
  obtain ⟨own, hA, -⟩ := h.sw.1
  rw [← hz]
  exact (arena_walk hA hb).mono fun _ _ ⟨h1, h2⟩ => ⟨h1, h.below h2⟩
end
set_option maxRecDepth 100000 in
set_option maxHeartbeats 6400000 in
theorem walks_walk (f0 : Nat → Nd) (A0 : Option Addr) (m0 c0 : Nat) (f1 : Nat → Int) (A1 : Option Addr) (m1 c1 : Nat) (bb : Nat) (w : World) (_ : m0 ≤ 9223372036854775807) (_ : m0 ≤ c0) (hO : Ops w A0 m0 f0) (_ : m1 ≤ 9223372036854775807) (_ : m1 ≤ c1) (hI : Ints w A1 m1 f1) (hbb : bb < 18446744073709551616) :
    Calls Try.prog 4 #[.slice A0 m0 c0, .slice A1 m1 c1, .int .u64 (bb : Int)] w fun e w' => e = .returned (.bool true) ∧ Below w.heap.size w w' := by
  by_cases hm : 40 < m0
  · have HF := Lib.hid (build_far (A := A0) (c := c0) hm w)
    have d0 : decide ((40 : Int) < (m0 : Int)) = true := decide_eq_true (by omega)
    clear hI hO
    go_enter Try.func4, Try.ntmps4
    go_wp2_with (first
      | (go_at_call 6; ((with_reducible refine HF.out.mono ?_); rintro e w1 ⟨rfl, hb1⟩); have HB1 := Lib.hid (hb1.trans ((Below.refl _ _).alloc hb1.size (.cells #[.int .i64 60, .slice none 0 0] 27))); clear hb1)
      | (go_at_call 7; ((with_reducible refine (alive_low HB1.out).mono ?_); rintro e w2 ⟨rfl, hb2⟩)))
    go_ret
    exact ⟨rfl, hb2⟩
  · have HF := Lib.hid (build_sw (c0 := c0) (by omega) hO)
    have hfew := scr_few f0 (m := m0) (by omega)
    obtain ⟨L, hL⟩ : ∃ L, scr 60 [] f0 m0 = L := ⟨_, rfl⟩
    rw [hL] at HF hfew
    have HL40 := Lib.hid hfew
    obtain ⟨N, hN⟩ : ∃ N, L.length = N := ⟨_, rfl⟩
    have HN := Lib.hid hN
    rw [hN] at HF hfew
    have HI := Lib.hid hI
    have d0 : decide ((40 : Int) < (m0 : Int)) = false := decide_eq_false (by omega)
    have HBB := Lib.hid hbb
    clear hL hN hO hI
    by_cases hq : 30 < m1
    · have d1 : decide ((30 : Int) < (m1 : Int)) = true := decide_eq_true (by omega)
      go_enter Try.func4, Try.ntmps4
      go_wp2_with (first
        | (go_at_call 6; ((with_reducible refine HF.out.mono ?_); rintro e w1 ⟨p, A, c, rfl, h1⟩); have H1 := Lib.hid (h1.below ((Below.refl _ _).alloc (Nat.le_refl _) (.cells #[.int .i64 60, .slice A N c] 27))); clear h1)
        | (go_at_call 7; ((with_reducible refine (alive_sw H1.out).mono ?_); rintro e w2 ⟨rfl, h2, -⟩)))
      go_ret
      exact ⟨rfl, h2.low⟩
    · have d1 : decide ((30 : Int) < (m1 : Int)) = false := decide_eq_false (by omega)
      have hm30 : m1 ≤ 30 := by omega
      go_enter Try.func4, Try.ntmps4
      go_wp2_with (first
        | (go_at_call 6; ((with_reducible refine HF.out.mono ?_); rintro e w1 ⟨p, A, c, rfl, h1⟩); have H1 := Lib.hid (h1.below ((Below.refl _ _).alloc (Nat.le_refl _) (.cells #[.int .i64 60, .slice A N c] 27))); clear h1)
        | (go_at_call 11; ((with_reducible refine (sw_comp H1.out HL40.out (HI.out.below H1.out.low) hm30 (by omega) rfl).mono ?_); rintro e w2 (⟨q, rg, M, R, rfl, hc2, hcm, hal, -⟩ | ⟨rfl, h2, -, -⟩ | ⟨b2, v2, cc, rfl, h2, -, -, -, -, -⟩)))
        | (go_at_call 7; ((with_reducible refine (alive_sw h2).mono ?_); rintro e w3 ⟨rfl, h3, -⟩)))
      · have HC2 := Lib.hid hc2
        have HE : Hid (∀ j, j < m1 → endP M bb (R.getD j 0) = endP L bb (f1 j)) := Lib.hid fun j hj => (cmp_has hc2.sw.right hal hcm j hj).2 bb
        clear hc2 hcm hal
        go_loopg [51] m1 (fun gk t51 wr => ∃ i : Nat, i + gk = m1 ∧ t51 = .int .i64 (i : Int) ∧ Cd w p A c L q M rg m1 R 60 wr)
        case atStart => exact ⟨0, by omega, rfl, HC2.out⟩
        case round =>
          clear HC2
          rename Nat => g0
          obtain ⟨i, hi, rfl, hC⟩ := hrel
          have HC := Lib.hid hC
          have HI2 := Lib.hid hi
          clear hi
          by_cases him : i < m1
          · obtain ⟨b, off, x, hA, hblt, hf, k0⟩ := (HI.out.below hC.sw.low).at_ him
            have k1 := hC.at_ him
            have hrlt := hC.row.lt
            have he := HE.out i him
            rw [hf] at he
            obtain ⟨y, hy⟩ : ∃ y, R.getD i 0 = y := ⟨_, rfl⟩
            obtain ⟨z, hz⟩ : ∃ z, endP L bb x = z := ⟨_, rfl⟩
            rw [hy] at he k1
            rw [hz] at he
            have HZ1 := Lib.hid he
            have HZ2 := Lib.hid hz
            subst hA
            clear hf he hy hz hC
            go_wp2_with (first
              | (go_at_call 12; ((with_reducible refine (cd_walkB HC.out HZ1.out HBB.out).mono ?_); rintro e w4 ⟨rfl, h4⟩); have H4 := Lib.hid h4; clear h4)
              | (go_at_call 12; ((with_reducible refine (cd_walkA H4.out HZ2.out HBB.out).mono ?_); rintro e w5 ⟨rfl, h5⟩); have H5 := Lib.hid h5; clear h5))
            have hi := HI2.out
            go_roundg (g0 - 1)
            case measure => omega
            case rel => exact ⟨i + 1, by omega, by simp, H5.out⟩
          · have hie : m1 = i := by have := HI2.out; omega
            subst hie
            clear hC
            go_wp2_with (first
              | (go_at_call 7; ((with_reducible refine (alive_sw HC.out.sw).mono ?_); rintro e w5 ⟨rfl, h5, -⟩)))
            go_ret
            exact ⟨rfl, h5.low⟩
      · go_ret
        exact ⟨rfl, h3.low⟩
      · go_ret
        exact ⟨rfl, h3.low⟩
end Go.Proofs.Ytlddelnbjihhgaa
