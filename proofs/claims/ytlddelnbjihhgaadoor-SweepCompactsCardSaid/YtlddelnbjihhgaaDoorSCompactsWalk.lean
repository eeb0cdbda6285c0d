/- The walk of SweepCompacts. -/
import Derived.Test.YtlddelnbjihhgaaDoorSLawC
import Derived.Test.YtlddelnbjihhgaaDoorSRefComp
import Derived.Test.YtlddelnbjihhgaaDoorSNodes
import Derived.Test.YtlddelnbjihhgaaDoorSErr
namespace Go.Proofs.YtlddelnbjihhgaaDoor
open Go.RowKit
attribute [local go_sem ↓] Go.wp_at_zero Go.wp_at_succ

section
variable {w W W1 : World} {p c q rg m lim N : Nat} {A : Option Addr} {L M : List Nd} {R : List Int} {f : Nat → Int}
theorem RetLaw.low {e : Ending} (h : RetLaw w p A c L lim m f W e W1) : Below W.heap.size W W1 := by
  rcases h with ⟨q, rg, M, R, -, -, -, -, hb⟩ | ⟨-, -, -, hb⟩ | ⟨b, v, cc, -, -, -, -, -, -, hb⟩ <;> exact hb
/-- A row of numbers that was put together, as a slice. -/
theorem row_ints {base n : Nat} {v : Value} {R : List Int} (hn : R.length = n) (h : W.ownsRow base 3 1 v n (R.map (Value.int .i64))) : ∃ A c, v = .slice A n c ∧ Ints W A n fun k => R.getD k 0 := by
  subst hn
  rcases h.2 with ⟨h1, h0⟩ | ⟨g, cap, cur, h1, -⟩
  · refine ⟨none, 0, ?_, fun hn => ?_⟩
    · rw [h1, h0]
    · omega
  · subst h1
    refine ⟨_, _, rfl, fun _ => ⟨g, 0, rfl, (World.ownsRow.lt h g rfl).2, fun j hj => ?_⟩⟩
    rw [Nat.zero_add]
    refine (h.cellAt j (by omega)).trans ?_
    show _ = some (Value.int IntKind.i64 (R.getD j 0))
    rw [List.getElem?_map, List.getD_eq_getElem?_getD, List.getElem?_eq_getElem hj]
    rfl
theorem sw_rcomp_ok (h : Sw w p A c L W) (hN : L.length = N) (hL : N ≤ 40) {A1 : Option Addr} {c1 : Nat} (hI : Ints W A1 m f) (hm : m ≤ 30) {l : Int} (hlim : l.toNat = lim) (hal : ∀ j, j < m → hasP L.length (f j) = true) (hcm : cmpP lim L f m = (M, R, 0)) :
    Calls Tryd.prog 28 #[.agg #[.int .i64 60, .slice A N c], .slice A1 m c1, .int .i64 l] W fun e w' => ∃ A2 c2 A5 c5, e = .returned (.tuple #[.agg #[.int .i64 lim, .slice A2 M.length c2], .slice A5 m c5, .int .i64 0]) ∧ RefA w' A2 c2 M ∧ Ints w' A5 m (fun k => R.getD k 0) ∧ Below W.heap.size W w' := by
  subst hN
  have hl := (cmp_all h.right hcm).2.1
  refine (rcomp_yes (limF := 60) h.2 h.right hI hm (by omega) hal hlim hcm).mono fun e w' hr => ?_
  rcases hr with ⟨-, A2, c2, v, he, h1, h2, hb⟩ | ⟨h0, -⟩
  · obtain ⟨A5, c5, rfl, h5⟩ := row_ints hl h2
    exact ⟨A2, c2, A5, c5, he, h1, h5, hb⟩
  · exact absurd rfl h0
theorem sw_rcomp_bad (h : Sw w p A c L W) (hN : L.length = N) (hL : N ≤ 40) {A1 : Option Addr} {c1 : Nat} (hI : Ints W A1 m f) (hm : m ≤ 30) {l cc : Int} (hlim : l.toNat = lim) (hal : ∀ j, j < m → hasP L.length (f j) = true) (hc : cc ≠ 0) (hcm : cmpP lim L f m = (M, R, cc)) :
    Calls Tryd.prog 28 #[.agg #[.int .i64 60, .slice A N c], .slice A1 m c1, .int .i64 l] W fun e w' => e = .returned (.tuple #[.agg #[.int .i64 0, .slice none 0 0], .slice none 0 0, .int .i64 cc]) ∧ Below W.heap.size W w' := by
  subst hN
  refine (rcomp_yes (limF := 60) h.2 h.right hI hm (by omega) hal hlim hcm).mono fun e w' hr => ?_
  rcases hr with ⟨h0, -⟩ | ⟨-, he, hb⟩
  · exact absurd h0 hc
  · exact ⟨he, hb⟩
theorem sw_rcomp_no (h : Sw w p A c L W) (hN : L.length = N) {A1 : Option Addr} {c1 : Nat} (hI : Ints W A1 m f) (hm : m ≤ 30) {l : Int} (hno : ∃ j, j < m ∧ hasP L.length (f j) = false) :
    Calls Tryd.prog 28 #[.agg #[.int .i64 60, .slice A N c], .slice A1 m c1, .int .i64 l] W fun e w' => e = .returned (.tuple #[.agg #[.int .i64 0, .slice none 0 0], .slice none 0 0, .int .i64 1]) ∧ Below W.heap.size W w' := by
  subst hN
  obtain ⟨j, h1, h2, h3⟩ := least_not hno
  refine (rcomp_no (limF := 60) (lim := 0) (M := []) (R := []) h.2 hI hm h1 h2 h3 l).mono fun e w' hr => ?_
  rcases hr with ⟨h0, -⟩ | ⟨-, he, hb⟩
  · exact absurd h0 (by decide)
  · exact ⟨he, hb⟩
/-- Behind both Compacts. -/
structure CF (w : World) (p : Nat) (A : Option Addr) (c : Nat) (L : List Nd) (q : Nat) (M : List Nd) (rg m : Nat) (R : List Int) (lim : Nat) (A5 : Option Addr) (qx : Nat) (A2 : Option Addr) (c2 : Nat) (W : World) : Prop where
  cd : Cd w p A c L q M rg m R lim W
  want : Ints W A5 m fun k => R.getD k 0
  qb : Blk W qx 46 #[.int .i64 lim, .slice A2 M.length c2]
  qr : RefA W A2 c2 M
theorem CF.below {A5 A2 : Option Addr} {qx c2 : Nat} (h : CF w p A c L q M rg m R lim A5 qx A2 c2 W) (hb : Below W.heap.size W W1) : CF w p A c L q M rg m R lim A5 qx A2 c2 W1 :=
  ⟨h.cd.below hb, h.want.below hb, h.qb.below hb h.qb.lt, h.qr.below hb⟩
theorem cf_nodes {A5 A2 : Option Addr} {qx c2 K : Nat} (h : CF w p A c L q M rg m R lim A5 qx A2 c2 W) (hK : M.length = K) : Calls Tryd.prog 30 #[.pointer (some ⟨q, 0, none⟩), .agg #[.int .i64 lim, .slice A2 K c2]] W fun e w' => e = .returned (.bool true) ∧ Below w.heap.size w w' := by
  subst hK
  obtain ⟨own, hA⟩ := h.cd.dst
  exact (nodes_any hA h.qr lim).mono fun _ _ ⟨h1, h2⟩ => ⟨h1, h.cd.sw.low.trans (h2.mono h.cd.sw.low.size)⟩
end
set_option maxRecDepth 100000 in
set_option maxHeartbeats 12800000 in
theorem compacts_walk (f0 : Nat → Nd) (A0 : Option Addr) (m0 c0 : Nat) (f1 : Nat → Int) (A1 : Option Addr) (m1 c1 : Nat) (l : Int) (w : World) (he : ErrTy w) (_ : m0 ≤ 9223372036854775807) (_ : m0 ≤ c0) (hO : Ops w A0 m0 f0) (_ : m1 ≤ 9223372036854775807) (_ : m1 ≤ c1) (hI : Ints w A1 m1 f1) (hl : -9223372036854775808 ≤ l ∧ l ≤ 9223372036854775807) :
    Calls Tryd.prog 5 #[.slice A0 m0 c0, .slice A1 m1 c1, .int .i64 l] w fun e w' => e = .returned (.bool true) ∧ Below w.heap.size w w' := by
  have HE := Lib.hid he
  clear he
  by_cases hm : 40 < m0
  · have HF := Lib.hid (build_far (A := A0) (c := c0) hm w)
    have d0 : decide ((40 : Int) < (m0 : Int)) = true := decide_eq_true (by omega)
    clear hI hO hl
    go_enter Tryd.func5, Tryd.ntmps5
    go_wp2_with (first
      | (go_at_call 25; ((with_reducible refine HF.out.mono ?_); rintro e w1 ⟨rfl, hb1⟩); have HB1 := Lib.hid (hb1.trans ((Below.refl _ _).alloc hb1.size (.cells #[.int .i64 60, .slice none 0 0] 46))); clear hb1)
      | (go_at_call 26; ((with_reducible refine (alive_low HB1.out).mono ?_); rintro e w2 ⟨rfl, hb2⟩)))
    go_ret
    exact ⟨rfl, hb2⟩
  · have HF := Lib.hid (build_sw (c0 := c0) (by omega) hO)
    have hfew := scr_few f0 (m := m0) (by omega)
    obtain ⟨L, hL⟩ : ∃ L, scr 60 [] f0 m0 = L := ⟨_, rfl⟩
    rw [hL] at HF hfew
    have HL40 := Lib.hid hfew
    obtain ⟨N, hN⟩ : ∃ N, L.length = N := ⟨_, rfl⟩
    have HN := Lib.hid hN
    rw [hN] at HF hfew
    have HN40 := Lib.hid hfew
    have HI := Lib.hid hI
    have d0 : decide ((40 : Int) < (m0 : Int)) = false := decide_eq_false (by omega)
    clear hL hN hO hI
    by_cases hq : 30 < m1
    · have d1 : decide ((30 : Int) < (m1 : Int)) = true := decide_eq_true (by omega)
      go_enter Tryd.func5, Tryd.ntmps5
      go_wp2_with (first
        | (go_at_call 25; ((with_reducible refine HF.out.mono ?_); rintro e w1 ⟨p, A, c, rfl, h1⟩); have H1 := Lib.hid (h1.below ((Below.refl _ _).alloc (Nat.le_refl _) (.cells #[.int .i64 60, .slice A N c] 46))); clear h1)
        | (go_at_call 26; ((with_reducible refine (alive_sw H1.out).mono ?_); rintro e w2 ⟨rfl, h2, -⟩)))
      go_ret
      exact ⟨rfl, h2.low⟩
    · have d1 : decide ((30 : Int) < (m1 : Int)) = false := decide_eq_false (by omega)
      have hm30 : m1 ≤ 30 := by omega
      obtain ⟨lim, hlim⟩ : ∃ lim, l.toNat = lim := ⟨_, rfl⟩
      have HLim := Lib.hid hlim
      have HLr := Lib.hid hl
      clear hlim hl
      go_enter Tryd.func5, Tryd.ntmps5
      go_upto_region 4 with (first
        | (go_at_call 25; ((with_reducible refine HF.out.mono ?_); rintro e w1 ⟨p, A, c, rfl, h1⟩); have H1 := Lib.hid (h1.below ((Below.refl _ _).alloc (Nat.le_refl _) (.cells #[.int .i64 60, .slice A N c] 46))); clear h1))
      have X1 := Lib.hid (Blk.new w1 46 #[.int .i64 60, .slice A N c])
      obtain ⟨V, hV⟩ : ∃ V, w1.alloc (.cells #[.int .i64 60, .slice A N c] 46) = V := ⟨_, rfl⟩
      obtain ⟨bx, hbx⟩ : ∃ bx, w1.heap.size = bx := ⟨_, rfl⟩
      rw [hV] at H1 X1 ⊢
      rw [hbx] at X1 ⊢
      clear hV hbx
      have nn : ∀ w, (binOp .eql 43 (.pointer none) (.pointer none)).run Tryd.prog w = .ok (.bool true) w := fun _ => by kernel_rfl
      have HCm := Lib.hid (sw_comp (c1 := c1) H1.out HL40.out (HI.out.below H1.out.low) hm30 HLr.out HLim.out)
      go_upto_region 8 with (first
        | (go_at_call 27; ((with_reducible refine HCm.out.mono ?_); rintro e w2 hw); have hb2 := hw.low; have X2 := X1.out.below hb2 X1.out.lt; have x0 : w2.cell? ⟨bx, 0, none⟩ = some (.int .i64 60) := X2.cell 0; have x1 : w2.cell? ⟨bx, 1, none⟩ = some (.slice A N c) := X2.cell 1; clear hb2 X2; rcases hw with ⟨q, rg, M, R, rfl, hc2, hcm, hal, -⟩ | ⟨rfl, h2, hno, -⟩ | ⟨b2, v2, cc, rfl, h2, hcc, hcb, hal, hk2, -⟩)
        | (go_at_call 28; ((with_reducible refine (sw_rcomp_ok hc2.sw HN.out HN40.out (HI.out.below hc2.sw.low) hm30 HLim.out hal hcm).mono ?_); rintro e w3 ⟨A2, c2, A5, c5, rfl, hr3, hi3, hb3⟩); have HC3 := hc2.below hb3)
        | (go_at_call 28; ((with_reducible refine (sw_rcomp_no h2 HN.out (HI.out.below h2.low) hm30 hno).mono ?_); rintro e w3 ⟨rfl, hb3⟩); have h3 := h2.below hb3)
        | (go_at_call 28; ((with_reducible refine (sw_rcomp_bad h2 HN.out HN40.out (HI.out.below h2.low) hm30 HLim.out hal hcc hcb).mono ?_); rintro e w3 ⟨rfl, hb3⟩); have h3 := h2.below hb3; have k3 := hk2.below hb3 hk2.lt)
        | (go_at_call 29; ((with_reducible refine (number_nil _).mono ?_); rintro e w4 ⟨rfl, hb4⟩))
        | (go_at_call 29; ((with_reducible refine (number_self 1 (HE.out.below (h3.low.trans ((Below.refl _ _).alloc h3.low.size (.cells #[.int .i64 0, .slice none 0 0] 46))))).mono ?_); rintro e w4 ⟨rfl, hb4⟩))
        | (go_at_call 29; ((with_reducible refine (number_fault (k3.up _) (HE.out.below (h3.low.trans ((Below.refl _ _).alloc h3.low.size (.cells #[.int .i64 0, .slice none 0 0] 46))))).mono ?_); rintro e w4 ⟨rfl, hb4⟩)))
      · have hbq := (Below.refl w3.heap.size w3).alloc (Nat.le_refl _) (.cells #[.int .i64 lim, .slice A2 M.length c2] 46)
        have HF3 : CF w p A c L q M rg m1 R lim A5 w3.heap.size A2 c2 (w3.alloc (.cells #[.int .i64 lim, .slice A2 M.length c2] 46)) := ⟨HC3.below hbq, hi3.below hbq, Blk.new _ _ _, hr3.below hbq⟩
        have HF4 := Lib.hid (HF3.below hb4)
        obtain ⟨qx, hqx⟩ : ∃ qx, w3.heap.size = qx := ⟨_, rfl⟩
        obtain ⟨K, hK⟩ : ∃ K, M.length = K := ⟨_, rfl⟩
        have HK := Lib.hid hK
        rw [hqx] at HF4 ⊢
        clear hbq HF3 hb4 hqx HC3 hi3 hr3 hb3 hc2 hcm hal x0 x1 hK
        go_wp2_with fail
        go_loopg [70] m1 (fun gk t70 wr => ∃ i : Nat, i + gk = m1 ∧ t70 = .int .i64 (i : Int) ∧ CF w p A c L q M rg m1 R lim A5 qx A2 c2 wr)
        case atStart => exact ⟨0, by omega, rfl, HF4.out⟩
        case round =>
          clear HF4
          rename Nat => g0
          obtain ⟨i, hi, rfl, hC⟩ := hrel
          have HC := Lib.hid hC
          have HI2 := Lib.hid hi
          clear hi
          by_cases him : i < m1
          · have k1 := hC.cd.at_ him
            have l1 := hC.cd.row.lt
            obtain ⟨b, off, y, hA5, hblt, hy, k2⟩ := hC.want.at_ him
            rw [hy] at k1
            subst hA5
            clear hy hC
            go_wp2_with fail
            go_quiet (fail)
            go_wp2_with fail
            have hi := HI2.out
            go_roundg (g0 - 1)
            case measure => omega
            case rel => exact ⟨i + 1, by omega, by simp, HC.out.below (drewN_below _ _)⟩
          · have hie : m1 = i := by have := HI2.out; omega
            subst hie
            clear hC
            go_wp2_with (first
              | (go_at_call 26; ((with_reducible refine (alive_sw HC.out.cd.sw).mono ?_); rintro e w5 ⟨rfl, -, hb5⟩); have H5 := Lib.hid (HC.out.below hb5); have x0 : w5.cell? ⟨qx, 0, none⟩ = some (.int .i64 lim) := H5.out.qb.cell 0; have x1 : w5.cell? ⟨qx, 1, none⟩ = some (.slice A2 K c2) := by { have := H5.out.qb.cell 1; rw [HK.out] at this; exact this }; clear hb5)
              | (go_at_call 30; ((with_reducible refine (cf_nodes H5.out HK.out).mono ?_); rintro e w6 ⟨rfl, hb6⟩)))
            go_ret
            exact ⟨rfl, hb6⟩
      · have hlow : Below w.heap.size w w4 := (h3.low.trans ((Below.refl _ _).alloc h3.low.size (.cells #[.int .i64 0, .slice none 0 0] 46))).trans (hb4.mono (by have := h3.low.size; simp; omega))
        have HLo := Lib.hid hlow
        clear hlow hb4
        go_wp2_with fail
        go_loopg [70] 0 (fun gk t70 wr => t70 = .int .i64 0 ∧ wr = w4)
        case atStart => exact ⟨rfl, rfl⟩
        case round =>
          obtain ⟨rfl, hw⟩ := hrel
          subst hw
          go_wp2_with (first
            | (go_at_call 26; ((with_reducible refine (alive_low HLo.out).mono ?_); rintro e w5 ⟨rfl, hb5⟩)))
          go_ret
          exact ⟨rfl, hb5⟩
      · have hlow : Below w.heap.size w w4 := (h3.low.trans ((Below.refl _ _).alloc h3.low.size (.cells #[.int .i64 0, .slice none 0 0] 46))).trans (hb4.mono (by have := h3.low.size; simp; omega))
        have HLo := Lib.hid hlow
        clear hlow hb4
        go_wp2_with fail
        go_loopg [70] 0 (fun gk t70 wr => t70 = .int .i64 0 ∧ wr = w4)
        case atStart => exact ⟨rfl, rfl⟩
        case round =>
          obtain ⟨rfl, hw⟩ := hrel
          subst hw
          go_wp2_with (first
            | (go_at_call 26; ((with_reducible refine (alive_low HLo.out).mono ?_); rintro e w5 ⟨rfl, hb5⟩)))
          go_ret
          exact ⟨rfl, hb5⟩
end Go.Proofs.YtlddelnbjihhgaaDoor
