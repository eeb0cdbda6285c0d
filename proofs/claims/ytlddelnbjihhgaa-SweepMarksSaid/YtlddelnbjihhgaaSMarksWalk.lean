/- The walk of SweepMarks. -/
import Derived.Test.YtlddelnbjihhgaaSLaw
import Derived.Test.YtlddelnbjihhgaaSRefMark
namespace Go.Proofs.Ytlddelnbjihhgaa
open Go.RowKit
attribute [local go_sem ↓] Go.wp_at_zero Go.wp_at_succ

section
variable {w W W1 : World} {p c m : Nat} {A : Option Addr} {L : List Nd}
theorem sw_marks (h : Sw w p A c L W) {N m1 c1 : Nat} {A1 : Option Addr} {f1 : Nat → Int} {B : Nat → Bool} (hN : L.length = N) (hB : marksB L f1 m1 = B) (hI : Ints W A1 m1 f1) (hm : m1 ≤ 9223372036854775807) : Calls Try.prog 8 #[.pointer (some ⟨p, 0, none⟩), .slice A1 m1 c1] W
    fun e w' => ∃ g, e = .returned (.slice (some ⟨g, 0, none⟩) N N) ∧ Blk w' g 4 (boolsA N B) ∧ Below W.heap.size W w' := by
  subst hN; subst hB
  obtain ⟨own, hA, -⟩ := h.1
  exact (marks_any hA hI hm).mono fun _ _ ⟨g, h1, h2, _, h3⟩ => ⟨g, h1, h2, h3⟩
theorem sw_rmarks (h : Sw w p A c L W) {N m1 c1 : Nat} {A1 : Option Addr} {f1 : Nat → Int} {B : Nat → Bool} (hN : L.length = N) (hB : marksB L f1 m1 = B) (hI : Ints W A1 m1 f1) (hm : m1 ≤ 9223372036854775807) : Calls Try.prog 9 #[.agg #[.int .i64 60, .slice A N c], .slice A1 m1 c1] W
    fun e w' => ∃ g, e = .returned (.slice (some ⟨g, 0, none⟩) N N) ∧ Blk w' g 4 (boolsA N B) ∧ Below W.heap.size W w' := by
  subst hN; subst hB
  exact (rmarks_any (lim := 60) h.2 h.right hI hm).mono fun _ _ ⟨g, h1, h2, _, h3⟩ => ⟨g, h1, h2, h3⟩
theorem sw_dead (h : Sw w p A c L W) {N m1 c1 D : Nat} {A1 : Option Addr} {f1 : Nat → Int} {B : Nat → Bool} (hN : L.length = N) (hB : marksB L f1 m1 = B) (hD : deadN B N = D) (hI : Ints W A1 m1 f1) (hm : m1 ≤ 9223372036854775807) : Calls Try.prog 10 #[.pointer (some ⟨p, 0, none⟩), .slice A1 m1 c1] W
    fun e w' => e = .returned (.int .i64 (D : Int)) ∧ Below W.heap.size W w' := by
  subst hN; subst hB; subst hD
  obtain ⟨own, hA, -⟩ := h.1
  exact dead_any hA hI hm
end
set_option maxRecDepth 100000 in
set_option maxHeartbeats 6400000 in
theorem marks_walk (f0 : Nat → Nd) (A0 : Option Addr) (m0 c0 : Nat) (f1 : Nat → Int) (A1 : Option Addr) (m1 c1 : Nat) (w : World) (_ : m0 ≤ 9223372036854775807) (_ : m0 ≤ c0) (hO : Ops w A0 m0 f0) (hm1 : m1 ≤ 9223372036854775807) (_ : m1 ≤ c1) (hI : Ints w A1 m1 f1) :
    Calls Try.prog 3 #[.slice A0 m0 c0, .slice A1 m1 c1] w fun e w' => e = .returned (.bool true) ∧ Below w.heap.size w w' := by
  by_cases hm : 40 < m0
  · have HF := Lib.hid (build_far (A := A0) (c := c0) hm w)
    have d0 : decide ((40 : Int) < (m0 : Int)) = true := decide_eq_true (by omega)
    clear hI hO
    go_enter Try.func3, Try.ntmps3
    go_wp2_with (first
      | (go_at_call 6; ((with_reducible refine HF.out.mono ?_); rintro e w1 ⟨rfl, hb1⟩); have HB1 := Lib.hid (hb1.trans ((Below.refl _ _).alloc hb1.size (.cells #[.int .i64 60, .slice none 0 0] 27))); clear hb1)
      | (go_at_call 7; ((with_reducible refine (alive_low HB1.out).mono ?_); rintro e w2 ⟨rfl, hb2⟩)))
    go_ret
    exact ⟨rfl, hb2⟩
  · have HF := Lib.hid (build_sw (c0 := c0) (by omega) hO)
    have hfew := scr_few f0 (m := m0) (by omega)
    obtain ⟨L, hL⟩ : ∃ L, scr 60 [] f0 m0 = L := ⟨_, rfl⟩
    rw [hL] at HF hfew
    obtain ⟨N, hN⟩ : ∃ N, L.length = N := ⟨_, rfl⟩
    have HN := Lib.hid hN
    rw [hN] at HF hfew
    have HI := Lib.hid hI
    have d0 : decide ((40 : Int) < (m0 : Int)) = false := decide_eq_false (by omega)
    clear hL hN hO hI
    by_cases hq : 100 < m1
    · have d1 : decide ((100 : Int) < (m1 : Int)) = true := decide_eq_true (by omega)
      go_enter Try.func3, Try.ntmps3
      go_wp2_with (first
        | (go_at_call 6; ((with_reducible refine HF.out.mono ?_); rintro e w1 ⟨p, A, c, rfl, h1⟩); have H1 := Lib.hid (h1.below ((Below.refl _ _).alloc (Nat.le_refl _) (.cells #[.int .i64 60, .slice A N c] 27))); clear h1)
        | (go_at_call 7; ((with_reducible refine (alive_sw H1.out).mono ?_); rintro e w2 ⟨rfl, h2, -⟩)))
      go_ret
      exact ⟨rfl, h2.low⟩
    · have d1 : decide ((100 : Int) < (m1 : Int)) = false := decide_eq_false (by omega)
      obtain ⟨B, hB⟩ : ∃ B, marksB L f1 m1 = B := ⟨_, rfl⟩
      have HB := Lib.hid hB
      clear hB
      go_enter Try.func3, Try.ntmps3
      go_wp2_with (first
        | (go_at_call 6; ((with_reducible refine HF.out.mono ?_); rintro e w1 ⟨p, A, c, rfl, h1⟩); have H1 := Lib.hid (h1.below ((Below.refl _ _).alloc (Nat.le_refl _) (.cells #[.int .i64 60, .slice A N c] 27))); clear h1))
      have X1 := Blk.new w1 27 #[.int .i64 60, .slice A N c]
      obtain ⟨V, hV⟩ : ∃ V, w1.alloc (.cells #[.int .i64 60, .slice A N c] 27) = V := ⟨_, rfl⟩
      obtain ⟨bx, hbx⟩ : ∃ bx, w1.heap.size = bx := ⟨_, rfl⟩
      rw [hV] at H1 X1 ⊢
      rw [hbx] at X1 ⊢
      clear hV hbx
      have HD := Lib.hid (H1.out.below (Below.refl _ _).drew)
      have XD := Lib.hid (X1.below (Below.refl V.heap.size V).drew X1.lt)
      have K0 : Hid (V.drew.cell? ⟨bx, 0, none⟩ = some (.int .i64 60) ∧ V.drew.cell? ⟨bx, 1, none⟩ = some (.slice A N c)) := Lib.hid ⟨XD.out.cell 0, XD.out.cell 1⟩
      clear X1
      go_region_held3 (fun w' => w'.cell? ⟨bx, 0, none⟩ = some (.int .i64 60) ∧ w'.cell? ⟨bx, 1, none⟩ = some (.slice A N c))
        (first | (with_reducible exact K0.out) | (with_reducible exact K2.out) | (with_reducible exact K3.out))
        (first
          | (go_at_call 8; ((with_reducible refine (sw_marks HD.out HN.out HB.out (HI.out.below HD.out.low) hm1).mono ?_); rintro e w2 ⟨g2, rfl, hr2, hb2⟩); have H2 := Lib.hid (HD.out.below hb2); have R2 := Lib.hid hr2; have X2 := Lib.hid (XD.out.below hb2 XD.out.lt); have K2 : Hid (w2.cell? ⟨bx, 0, none⟩ = some (.int .i64 60) ∧ w2.cell? ⟨bx, 1, none⟩ = some (.slice A N c)) := Lib.hid ⟨X2.out.cell 0, X2.out.cell 1⟩; clear hb2 hr2)
          | (go_at_call 9; ((with_reducible refine (sw_rmarks H2.out HN.out HB.out (HI.out.below H2.out.low) hm1).mono ?_); rintro e w3 ⟨g3, rfl, hr3, hb3⟩); have H3 := Lib.hid (H2.out.below hb3); have R3 := Lib.hid hr3; have R23 := Lib.hid (R2.out.below hb3 R2.out.lt); have K3 : Hid (w3.cell? ⟨bx, 0, none⟩ = some (.int .i64 60) ∧ w3.cell? ⟨bx, 1, none⟩ = some (.slice A N c)) := Lib.hid ⟨(X2.out.below hb3 X2.out.lt).cell 0, (X2.out.below hb3 X2.out.lt).cell 1⟩; clear hb3 hr3))
      go_wp2_with fail
      go_loopg [10, 49] N (fun gk t10 t49 wr => ∃ i : Nat, i + gk = N ∧ t49 = .int .i64 (i : Int) ∧ t10 = .int .i64 ((deadN B i : Nat) : Int) ∧ Sw w p A c L wr ∧ Blk wr g2 4 (boolsA N B) ∧ Blk wr g3 4 (boolsA N B))
      case atStart => exact ⟨0, by omega, rfl, rfl, H3.out, R23.out, R3.out⟩
      case round =>
        rename Nat => g0
        obtain ⟨i, hi, rfl, rfl, hS, h2, h3⟩ := hrel
        have HS := Lib.hid hS
        have HR2 := Lib.hid h2
        have HR3 := Lib.hid h3
        have HI2 := Lib.hid hi
        clear hi hS
        by_cases him : i < N
        · have hlt2 := h2.lt
          have hlt3 := h3.lt
          have hle := deadN_le B i
          have hs : deadN B (i + 1) = deadN B i + if B i = true then 0 else 1 := rfl
          obtain ⟨D, hD⟩ : ∃ D, deadN B i = D := ⟨_, rfl⟩
          rw [hD] at hs hle ⊢
          have a2 := (h2.cell i).trans (boolsA_at B him)
          have a3 := (h3.cell i).trans (boolsA_at B him)
          clear h2 h3 hD
          cases hb : B i with
          | true =>
            rw [if_pos hb] at hs
            rw [hb] at a2 a3
            have HSt := Lib.hid hs
            clear hs hb
            go_wp2_with fail
            go_quiet (fail)
            go_wp2_with fail
            have hi := HI2.out
            go_roundg (g0 - 1)
            case measure => omega
            case rel => exact ⟨i + 1, by omega, by simp, by rw [HSt.out]; simp, HS.out.below (drewN_below _ _), HR2.out.below (drewN_below _ _) HR2.out.lt, HR3.out.below (drewN_below _ _) HR3.out.lt⟩
          | false =>
            rw [if_neg (by rw [hb]; simp)] at hs
            rw [hb] at a2 a3
            have HSt := Lib.hid hs
            clear hs hb
            go_wp2_with fail
            go_quiet (fail)
            go_wp2_with fail
            have hi := HI2.out
            go_roundg (g0 - 1)
            case measure => omega
            case rel => exact ⟨i + 1, by omega, by simp, by rw [HSt.out]; simp, HS.out.below (drewN_below _ _), HR2.out.below (drewN_below _ _) HR2.out.lt, HR3.out.below (drewN_below _ _) HR3.out.lt⟩
        · have hie : N = i := by have := HI2.out; omega
          subst hie
          obtain ⟨D, hD⟩ : ∃ D, deadN B N = D := ⟨_, rfl⟩
          have HD := Lib.hid hD
          rw [hD]
          clear hD h2 h3
          go_wp2_with (first
            | (go_at_call 7; ((with_reducible refine (alive_sw HS.out).mono ?_); rintro e w5 ⟨rfl, h5, -⟩); have H5 := Lib.hid h5; clear h5)
            | (go_at_call 10; ((with_reducible refine (sw_dead H5.out HN.out HB.out HD.out (HI.out.below H5.out.low) hm1).mono ?_); rintro e w6 ⟨rfl, hb6⟩); have H6 := Lib.hid (H5.out.below hb6); clear hb6))
          go_ret
          exact ⟨rfl, H6.out.low⟩
end Go.Proofs.Ytlddelnbjihhgaa
