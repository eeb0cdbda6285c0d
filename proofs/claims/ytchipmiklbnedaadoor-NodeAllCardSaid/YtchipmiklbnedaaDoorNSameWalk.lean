/- The walk of NodeSame. -/
import Derived.Test.YtchipmiklbnedaaDoorNRightWalk
namespace Go.Proofs.YtchipmiklbnedaaDoor
open Go.RowKit
attribute [local go_sem ↓] Go.wp_at_zero Go.wp_at_succ

section
variable {w W W1 : World} {p lim : Nat} {L : List Nd} {R : List Int} {v : Value}
theorem bld_form (h : Bld w p lim L R v W) : ∃ A c, v = .slice A R.length c := by
  rcases (bld_row h).1.2 with ⟨h', h0⟩ | ⟨g, cap, cur, h', _⟩
  · exact ⟨none, 0, by rw [h', h0]⟩
  · exact ⟨_, _, h'⟩
theorem bld_at {A : Option Addr} {c k : Nat} {r : Int} (h : Bld w p lim L R (.slice A R.length c) W) (hk : R[k]? = some r) : ∃ g, A = some ⟨g, 0, none⟩ ∧ R.length ≤ c ∧ W.cell? ⟨g, k, none⟩ = some (.int .i64 r) := by
  have hlt : k < R.length := (List.getElem?_eq_some_iff.1 hk).1
  obtain ⟨g, rfl, -, hc⟩ := row_at (bld_row h).1 (by omega)
  refine ⟨g, rfl, hc, ?_⟩
  rw [(bld_row h).1.cellAt k (by omega), List.getElem?_map, hk]
  rfl
theorem bld_walk {r : Int} {b : Nat} {y : Int} (hy : endP L b r = y) (hb : b < 18446744073709551616) (h : Bld w p lim L R v W) : Calls Tryd.prog 28 #[.pointer (some ⟨p, 0, none⟩), .int .i64 r, .int .u64 (b : Int)] W fun e w' => e = .returned (.int .i64 y) ∧ Below W.heap.size W w' := by
  obtain ⟨own, hA, -⟩ := h
  rw [← hy]
  exact arena_walk hA hb
end
/-- The bits ahead of b lead to the same from both, or don't. -/
def Alike (L : List Nd) (r1 r2 : Int) (b : Nat) (s : Bool) : Prop := s = true ↔ ∀ j, j < b → endP L j r1 = endP L j r2
theorem alike_zero (L : List Nd) (r1 r2 : Int) : Alike L r1 r2 0 true := ⟨fun _ j h => absurd h (by omega), fun _ => rfl⟩
theorem alike_false {L : List Nd} {r1 r2 : Int} {b : Nat} (h : Alike L r1 r2 b false) : Alike L r1 r2 (b + 1) false := ⟨fun e => (by cases e), fun e => h.2 fun j hj => e j (by omega)⟩
theorem alike_next {L : List Nd} {r1 r2 : Int} {b : Nat} (h : Alike L r1 r2 b true) : Alike L r1 r2 (b + 1) (endP L b r1 == endP L b r2) :=
  ⟨fun e j hj => by
    by_cases e2 : j = b
    · rw [e2]; simpa using e
    · exact h.1 rfl j (by omega), fun e => by simpa using e b (by omega)⟩
theorem keep_bld {w W W1 : World} {p lim i k g cv : Nat} {L : List Nd} {R : List Int} {x y : Option Value} (hb : Below W.heap.size W W1) (h : Bld w p lim L R (.slice (some ⟨g, 0, none⟩) R.length cv) W ∧ W.cell? ⟨g, i, none⟩ = x ∧ W.cell? ⟨g, k, none⟩ = y) :
    Bld w p lim L R (.slice (some ⟨g, 0, none⟩) R.length cv) W1 ∧ W1.cell? ⟨g, i, none⟩ = x ∧ W1.cell? ⟨g, k, none⟩ = y := by
  have hg : g < W.heap.size := ((bld_row h.1).1.lt g rfl).2
  exact ⟨bld_below h.1 hb, (hb.cell (p := ⟨g, i, none⟩) hg).trans h.2.1, (hb.cell (p := ⟨g, k, none⟩) hg).trans h.2.2⟩
theorem same_ends {L : List Nd} {r1 r2 : Int} {s : Bool} (hR : RightL L) (h1 : hasP L.length r1 = true) (h2 : hasP L.length r2 = true) (h : Alike L r1 r2 4096 s) : s = decide (r1 = r2) := by
  by_cases e : r1 = r2
  · rw [decide_eq_true e]
    exact h.2 fun j _ => by rw [e]
  · rw [decide_eq_false e]
    cases s
    · rfl
    · exact absurd (ends_same hR L.length r1 r2 ((hasP_iff _ _).1 h1).2 ((hasP_iff _ _).1 h2).2 h1 h2 (h.1 rfl)) e
set_option maxRecDepth 100000 in
set_option maxHeartbeats 6400000 in
theorem same_walk (f : Nat → Nd) (A : Option Addr) (m c : Nat) (xi xk : Int) (w : World) (he : ErrTy w) (ht : Tabs w) (_ : m ≤ 9223372036854775807) (_ : m ≤ c) (hO : Ops w A m f) (_ : -9223372036854775808 ≤ xi ∧ xi ≤ 9223372036854775807) (_ : -9223372036854775808 ≤ xk ∧ xk ≤ 9223372036854775807) :
    Calls Tryd.prog 5 #[.slice A m c, .int .i64 xi, .int .i64 xk] w fun e w' => e = .returned (.bool true) ∧ Below w.heap.size w w' := by
  have HE := Lib.hid he
  have HT := Lib.hid ht
  have ne := ne_nil
  clear he ht
  by_cases hm : 60 < m
  · have HF := Lib.hid (build_far_named (n := 100) (A := A) (c := c) (by omega) hm w)
    have nn : ∀ w, (binOp .eql 23 (.pointer none) (.pointer none)).run Tryd.prog w = .ok (.bool true) w := fun _ => by kernel_rfl
    clear hO
    go_enter Tryd.func5, Tryd.ntmps5
    go_wp2_with (first
      | (go_at_call 27; ((with_reducible refine HF.out.mono ?_); rintro e w1 ⟨rfl, hb1⟩); have HB1 := Lib.hid hb1; clear hb1)
      | (go_at_call 10; ((with_reducible refine (alive_any _ (HE.out.below HB1.out) (HT.out.stays HB1.out)).mono ?_); rintro e w2 ⟨rfl, hb2⟩); have HB2 := Lib.hid (HB1.out.trans (hb2.mono HB1.out.size)); clear hb2))
    go_ret
    exact ⟨rfl, HB2.out⟩
  · have HF := Lib.hid (build_named (n := 100) (lim := 100) (c := c) rfl (by omega) (by omega) w hO)
    obtain ⟨L, hL⟩ : ∃ L, scr 100 [] f m = L := ⟨_, rfl⟩
    obtain ⟨R, hR⟩ : ∃ R, refsP 100 [] f m = R := ⟨_, rfl⟩
    have hhas := refs_has (lim := 100) (L := []) f m
    have hlen := refs_len 100 [] f m
    rw [hL, hR] at HF
    rw [hL, hR] at hhas
    rw [hR] at hlen
    have HH := Lib.hid hhas
    clear hO hL hR hhas
    by_cases hin : (0 ≤ xi ∧ 0 ≤ xk) ∧ xi < (R.length : Int) ∧ xk < (R.length : Int)
    · obtain ⟨i, rfl⟩ : ∃ i : Nat, xi = (i : Int) := ⟨xi.toNat, by omega⟩
      obtain ⟨k, rfl⟩ : ∃ k : Nat, xk = (k : Int) := ⟨xk.toNat, by omega⟩
      obtain ⟨⟨hi0, hk0⟩, hil, hkl⟩ := hin
      obtain ⟨r1, h1⟩ : ∃ r, R[i]? = some r := ⟨_, List.getElem?_eq_getElem (by omega)⟩
      obtain ⟨r2, h2⟩ : ∃ r, R[k]? = some r := ⟨_, List.getElem?_eq_getElem (by omega)⟩
      have HR1 := Lib.hid h1
      have HR2 := Lib.hid h2
      have hil2 : i < R.length := by omega
      have hkl2 : k < R.length := by omega
      have c1 : decide ((i : Int) < 0) = false := decide_eq_false (by omega)
      have c2 : decide ((k : Int) < 0) = false := decide_eq_false (by omega)
      have c3 : decide (R.length ≤ i) = false := decide_eq_false (by omega)
      have c4 : decide (R.length ≤ k) = false := decide_eq_false (by omega)
      clear h1 h2
      go_enter Tryd.func5, Tryd.ntmps5
      go_wp2_with (first
        | (go_at_call 27; ((with_reducible refine HF.out.mono ?_); rintro e w1 ⟨p, v, rfl, hb1⟩); obtain ⟨A1, cv, hv⟩ := bld_form hb1; subst hv; have H1 := Lib.hid hb1; clear hb1))
      obtain ⟨g, hg, hcv, q1⟩ := bld_at H1.out HR1.out
      subst hg
      obtain ⟨g', hg', -, q2⟩ := bld_at H1.out HR2.out
      have hgg : g = g' := by injection hg' with hg'; injection hg' with hg'
      subst hgg
      have HC := Lib.hid (And.intro q1 q2)
      clear hg' q1 q2
      go_loopg [9, 39] 4096 (fun gk t9 t39 wr => ∃ (b : Nat) (s : Bool), b + gk = 4096 ∧ t39 = .int .u64 (b : Int) ∧ t9 = .bool s ∧ Alike L r1 r2 b s ∧ (Bld w p 100 L R (.slice (some ⟨g, 0, none⟩) R.length cv) wr ∧ wr.cell? ⟨g, i, none⟩ = some (.int .i64 r1) ∧ wr.cell? ⟨g, k, none⟩ = some (.int .i64 r2)))
      case atStart => exact ⟨0, true, by omega, rfl, rfl, alike_zero _ _ _, H1.out, HC.out⟩
      case round =>
        rename Nat => g0
        obtain ⟨b, s, hb, rfl, rfl, hal, hS⟩ := hrel
        have HB := Lib.hid hb
        have HAl := Lib.hid hal
        have HS := Lib.hid hS
        clear hb hal hS
        by_cases hb4 : b < 4096
        · have hw1 : IntKind.u64.wrap ((b : Int) + 1) = (b : Int) + 1 := IntWalk.u64_in _ (by omega)
          cases s
          · go_wp2_with fail
            go_quiet (fail)
            go_wp2_with fail
            have hb := HB.out
            go_roundg (g0 - 1)
            case measure => omega
            case rel => exact ⟨b + 1, false, by omega, by simp, rfl, alike_false HAl.out, keep_bld (drewN_below _ _) HS.out⟩
          · obtain ⟨y1, hy1⟩ : ∃ y, endP L b r1 = y := ⟨_, rfl⟩
            obtain ⟨y2, hy2⟩ : ∃ y, endP L b r2 = y := ⟨_, rfl⟩
            have HY1 := Lib.hid hy1
            have HY2 := Lib.hid hy2
            have hbb : b < 18446744073709551616 := by omega
            have K0 : Hid (Bld w p 100 L R (.slice (some ⟨g, 0, none⟩) R.length cv) wr.drew ∧ wr.drew.cell? ⟨g, i, none⟩ = some (.int .i64 r1) ∧ wr.drew.cell? ⟨g, k, none⟩ = some (.int .i64 r2)) := Lib.hid (keep_bld (Below.refl _ _).drew HS.out)
            clear hy1 hy2
            cases hy : (y1 == y2)
            all_goals
              have hd : decide (y1 = y2) = _ := (show decide (y1 = y2) = (y1 == y2) by rw [Bool.eq_iff_iff]; simp).trans hy
            · have hHr : Hid (Alike L r1 r2 (b + 1) false) := Lib.hid (by have := alike_next HAl.out; rw [HY1.out, HY2.out, hy] at this; exact this)
              go_wp2_with fail
              go_region_held3 (fun w' => Bld w p 100 L R (.slice (some ⟨g, 0, none⟩) R.length cv) w' ∧ w'.cell? ⟨g, i, none⟩ = some (.int .i64 r1) ∧ w'.cell? ⟨g, k, none⟩ = some (.int .i64 r2))
                (first | (with_reducible exact K0.out) | (with_reducible exact keep_bld hb3 K0.out) | (with_reducible exact keep_bld hb4' (keep_bld hb3 K0.out)))
                (first
                  | (go_at_call 28; ((with_reducible refine (bld_walk HY1.out hbb K0.out.1).mono ?_); rintro e w3 ⟨rfl, hb3⟩))
                  | (go_at_call 28; ((with_reducible refine (bld_walk HY2.out hbb (keep_bld hb3 K0.out).1).mono ?_); rintro e w4 ⟨rfl, hb4'⟩)))
              have H4 := Lib.hid (keep_bld hb4' (keep_bld hb3 K0.out))
              clear hb3 hb4'
              go_wp2_with fail
              have hb := HB.out
              go_roundg (g0 - 1)
              case measure => omega
              case rel => exact ⟨b + 1, false, by omega, by simp, rfl, hHr.out, H4.out⟩
            · have hHr : Hid (Alike L r1 r2 (b + 1) true) := Lib.hid (by have := alike_next HAl.out; rw [HY1.out, HY2.out, hy] at this; exact this)
              go_wp2_with fail
              go_region_held3 (fun w' => Bld w p 100 L R (.slice (some ⟨g, 0, none⟩) R.length cv) w' ∧ w'.cell? ⟨g, i, none⟩ = some (.int .i64 r1) ∧ w'.cell? ⟨g, k, none⟩ = some (.int .i64 r2))
                (first | (with_reducible exact K0.out) | (with_reducible exact keep_bld hb3 K0.out) | (with_reducible exact keep_bld hb4' (keep_bld hb3 K0.out)))
                (first
                  | (go_at_call 28; ((with_reducible refine (bld_walk HY1.out hbb K0.out.1).mono ?_); rintro e w3 ⟨rfl, hb3⟩))
                  | (go_at_call 28; ((with_reducible refine (bld_walk HY2.out hbb (keep_bld hb3 K0.out).1).mono ?_); rintro e w4 ⟨rfl, hb4'⟩)))
              have H4 := Lib.hid (keep_bld hb4' (keep_bld hb3 K0.out))
              clear hb3 hb4'
              go_wp2_with fail
              have hb := HB.out
              go_roundg (g0 - 1)
              case measure => omega
              case rel => exact ⟨b + 1, true, by omega, by simp, rfl, hHr.out, H4.out⟩
        · have hbe : b = 4096 := by have := HB.out; omega
          subst hbe
          have hbl := (bld_row HS.out.1).2
          have K0 : Hid (Bld w p 100 L R (.slice (some ⟨g, 0, none⟩) R.length cv) wr.drew ∧ wr.drew.cell? ⟨g, i, none⟩ = some (.int .i64 r1) ∧ wr.drew.cell? ⟨g, k, none⟩ = some (.int .i64 r2)) := Lib.hid (keep_bld (Below.refl _ _).drew HS.out)
          have hbd : Below w.heap.size w wr.drew := hbl.drew
          have HEw := Lib.hid (HE.out.below hbd)
          have HTw := Lib.hid (HT.out.stays hbd)
          have HBd := Lib.hid hbd
          have hright : RightL L := by
            obtain ⟨own, hA, -⟩ := HS.out.1
            exact hA.right
          have hse := same_ends hright (HH.out r1 (List.mem_of_getElem? HR1.out)) (HH.out r2 (List.mem_of_getElem? HR2.out)) HAl.out
          clear hbl hbd hright
          by_cases hr : r1 = r2
          · rw [decide_eq_true hr] at hse
            subst hse
            have e1 : (r1 == r2) = true := by simpa using hr
            have e2 : decide (r1 = r2) = true := decide_eq_true hr
            clear hr
            go_wp2_with fail
            go_region_held3 (fun w' => Bld w p 100 L R (.slice (some ⟨g, 0, none⟩) R.length cv) w' ∧ w'.cell? ⟨g, i, none⟩ = some (.int .i64 r1) ∧ w'.cell? ⟨g, k, none⟩ = some (.int .i64 r2))
              (first | (with_reducible exact K0.out) | (with_reducible exact keep_bld hb5 K0.out))
              (first
                | (go_at_call 10; ((with_reducible refine (alive_any _ HEw.out HTw.out).mono ?_); rintro e w5 ⟨rfl, hb5⟩)))
            have H5 := Lib.hid (HBd.out.trans (hb5.mono HBd.out.size))
            clear hb5
            go_wp2_with fail
            go_ret
            exact ⟨rfl, H5.out⟩
          · rw [decide_eq_false hr] at hse
            subst hse
            have e1 : (r1 == r2) = false := by simpa using hr
            have e2 : decide (r1 = r2) = false := decide_eq_false hr
            clear hr
            go_wp2_with fail
            go_region_held3 (fun w' => Bld w p 100 L R (.slice (some ⟨g, 0, none⟩) R.length cv) w' ∧ w'.cell? ⟨g, i, none⟩ = some (.int .i64 r1) ∧ w'.cell? ⟨g, k, none⟩ = some (.int .i64 r2))
              (first | (with_reducible exact K0.out) | (with_reducible exact keep_bld hb5 K0.out))
              (first
                | (go_at_call 10; ((with_reducible refine (alive_any _ HEw.out HTw.out).mono ?_); rintro e w5 ⟨rfl, hb5⟩)))
            have H5 := Lib.hid (HBd.out.trans (hb5.mono HBd.out.size))
            clear hb5
            go_wp2_with fail
            go_ret
            exact ⟨rfl, H5.out⟩
    · have hcond : xi < 0 ∨ (0 ≤ xi ∧ xk < 0) ∨ ((0 ≤ xi ∧ 0 ≤ xk) ∧ (R.length : Int) ≤ xi) ∨ ((0 ≤ xi ∧ 0 ≤ xk) ∧ xi < (R.length : Int) ∧ (R.length : Int) ≤ xk) := by omega
      clear hin
      rcases hcond with a1 | ⟨a1, a2⟩ | ⟨⟨a1, a2⟩, a3⟩ | ⟨⟨a1, a2⟩, a3, a4⟩
      all_goals
        go_enter Tryd.func5, Tryd.ntmps5
        go_wp2_with (first
          | (go_at_call 27; ((with_reducible refine HF.out.mono ?_); rintro e w1 ⟨p, v, rfl, hb1⟩); obtain ⟨A1, cv, hv⟩ := bld_form hb1; subst hv; have H1 := Lib.hid (bld_row hb1).2; clear hb1)
          | (go_at_call 10; ((with_reducible refine (alive_any _ (HE.out.below H1.out) (HT.out.stays H1.out)).mono ?_); rintro e w2 ⟨rfl, hb2⟩); have HB2 := Lib.hid (H1.out.trans (hb2.mono H1.out.size)); clear hb2))
        go_ret
        exact ⟨rfl, HB2.out⟩
end Go.Proofs.YtchipmiklbnedaaDoor
