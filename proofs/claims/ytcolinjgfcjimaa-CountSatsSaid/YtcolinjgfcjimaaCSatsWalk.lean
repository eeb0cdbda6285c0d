/- The walk of CountSats. -/
import Derived.Test.YtcolinjgfcjimaaCLawRef
import Derived.Test.YtcolinjgfcjimaaCRefSat
import Derived.Test.YtcolinjgfcjimaaCFitsWalk
namespace Go.Proofs.Ytcolinjgfcjimaa
open Go.RowKit
attribute [local go_sem ↓] Go.wp_at_zero Go.wp_at_succ

section
variable {w W W1 : World} {p c nb : Nat} {A : Option Addr} {L : List Nd} {f val : Int}
theorem lx_one {x : Int} {b : Bool} (h : Lx w p L A c nb W) (hx : oneX L val f = (x, b)) : Calls Try.prog 12 #[.pointer (some ⟨p, 0, none⟩), .int .i64 f, .int .i64 val] W fun e w' => e = .returned (.tuple #[.int .u64 x, .bool b]) ∧ Lx w p L A c nb w' := by
  have ⟨own, h1, h2⟩ := h.lv
  unfold oneX at hx
  by_cases hf : hasP L.length f = true
  · rw [if_pos hf] at hx
    cases hx
    exact (one_some h1 hf val).mono fun _ _ ⟨he, hb⟩ => ⟨he, h.below hb⟩
  · rw [if_neg hf] at hx
    cases hx
    exact (one_none h1 (by simpa using hf) val).mono fun _ _ ⟨he, hb⟩ => ⟨he, h.below hb⟩
theorem lx_rone {x : Int} {b : Bool} (h : Lx w p L A c nb W) (hx : oneX L val f = (x, b)) : Calls Try.prog 13 #[.agg #[.int .i64 60, .slice A L.length c], .int .i64 f, .int .i64 val] W fun e w' => e = .returned (.tuple #[.int .u64 x, .bool b]) ∧ Lx w p L A c nb w' :=
  (rone_any (lim := 60) h.ref h.lv.right hx).mono fun _ _ ⟨he, hb⟩ => ⟨he, h.below hb⟩
/-- What Sat tells. -/
def SatX (L : List Nd) (f val n y : Int) : Prop := (Below12 L f n → y = satN L n.toNat val f) ∧ (¬ Below12 L f n → y = 0)
theorem satX_is (L : List Nd) (f val n : Int) : ∃ y, SatX L f val n y := by
  by_cases h : Below12 L f n
  · exact ⟨_, fun _ => rfl, fun g => absurd h g⟩
  · exact ⟨0, fun g => absurd g h, fun _ => rfl⟩
theorem SatX.one {n y z : Int} (h : SatX L f val n y) (k : SatX L f val n z) : z = y := by
  by_cases g : Below12 L f n
  · rw [h.1 g, k.1 g]
  · rw [h.2 g, k.2 g]
theorem lx_sat {n y : Int} (h : Lx w p L A c nb W) (hy : SatX L f val n y) : Calls Try.prog 14 #[.pointer (some ⟨p, 0, none⟩), .int .i64 f, .int .i64 val, .int .i64 n] W fun e w' => e = .returned (.int .i64 y) ∧ Lx w p L A c nb w' := by
  have ⟨own, h1, h2⟩ := h.lv
  exact (sat_any (f := f) h1 val n).mono fun _ _ ⟨z, he, k1, k2, hb⟩ => ⟨by rw [he, hy.one ⟨k1, k2⟩], h.below hb⟩
theorem lx_rsat {n y : Int} (h : Lx w p L A c nb W) (hy : SatX L f val n y) : Calls Try.prog 15 #[.agg #[.int .i64 60, .slice A L.length c], .int .i64 f, .int .i64 val, .int .i64 n] W fun e w' => e = .returned (.int .i64 y) ∧ Lx w p L A c nb w' :=
  (rsat_any (lim := 60) (f := f) h.ref h.lv.right val n).mono fun _ _ ⟨z, he, k1, k2, hb⟩ => ⟨by rw [he, hy.one ⟨k1, k2⟩], h.below hb⟩
end
set_option maxRecDepth 100000 in
set_option maxHeartbeats 6400000 in
theorem sats_walk (f : Nat → Nd) (A : Option Addr) (m c : Nat) (r val n : Int) (w : World) (_ : m ≤ 9223372036854775807) (_ : m ≤ c) (hO : Ops w A m f) (_ : -9223372036854775808 ≤ r ∧ r ≤ 9223372036854775807) (_ : -9223372036854775808 ≤ val ∧ val ≤ 9223372036854775807) (_ : -9223372036854775808 ≤ n ∧ n ≤ 9223372036854775807) :
    Calls Try.prog 3 #[.slice A m c, .int .i64 r, .agg #[.int .i64 val, .int .i64 n]] w fun e w' => e = .returned (.bool true) ∧ Below w.heap.size w w' := by
  have hb0 := (Below.refl w.heap.size w).alloc (Nat.le_refl _) (.cells #[.int .i64 val, .int .i64 n] 23)
  have hk := Blk.new w 23 #[.int .i64 val, .int .i64 n]
  have k0 : (w.alloc (.cells #[.int .i64 val, .int .i64 n] 23)).cell? ⟨w.heap.size, 0, none⟩ = some (.int .i64 val) := hk.cell 0
  have k1 : (w.alloc (.cells #[.int .i64 val, .int .i64 n] 23)).cell? ⟨w.heap.size, 1, none⟩ = some (.int .i64 n) := hk.cell 1
  have HB0 := Lib.hid hb0.drew
  clear hb0 hk
  by_cases hm : 60 < m
  · have HF := Lib.hid (build_no (A := A) (c := c) HB0.out hm)
    have hd : decide (24 < (m : Int)) = true := decide_eq_true (by omega)
    go_enter Try.func3, Try.ntmps3
    go_wp2_with fail
    go_region
    go_wp2_with (first
      | (go_at_call 9; ((with_reducible refine HF.out.mono ?_); rintro e w1 ⟨rfl, hb1⟩); have HB1 := Lib.hid (hb1.trans ((Below.refl _ _).alloc hb1.size (.cells #[.int .i64 60, .slice none 0 0] 27))); clear hb1)
      | (go_at_call 11; ((with_reducible refine (alive_in HB1.out).mono ?_); rintro e w2 ⟨rfl, hb2⟩)))
    go_ret
    exact ⟨rfl, hb2⟩
  · have HF := Lib.hid (build_lr (c := c) HB0.out (by omega) hO)
    obtain ⟨L, hL⟩ : ∃ L, scr 60 [] f m = L := ⟨_, rfl⟩
    rw [hL] at HF
    clear hL
    by_cases hq : 24 < m
    · have HQ := Lib.hid (few_is (A := A) (c := c) (decide_eq_false (show ¬ m ≤ 24 by omega)))
      have hd : decide (24 < (m : Int)) = true := decide_eq_true (by omega)
      go_enter Try.func3, Try.ntmps3
      go_wp2_with fail
      go_region
      go_wp2_with (first
        | (go_at_call 9; ((with_reducible refine HF.out.mono ?_); rintro e w1 ⟨p, A', c', rfl, h1⟩); have H1 := Lib.hid h1.box; clear h1)
        | (go_at_call 10; ((with_reducible refine (HQ.out _).mono ?_); rintro e w9 ⟨rfl, rfl⟩))
        | (go_at_call 11; ((with_reducible refine (lx_alive H1.out).mono ?_); rintro e w2 ⟨rfl, h2⟩)))
      go_ret
      exact ⟨rfl, h2.lv.low⟩
    · have HQ := Lib.hid (few_is (A := A) (c := c) (decide_eq_true (show m ≤ 24 by omega)))
      obtain ⟨x, b, hx⟩ : ∃ x b, oneX L val r = (x, b) := ⟨_, _, rfl⟩
      obtain ⟨y, hy⟩ := satX_is L r val n
      have HX := Lib.hid hx
      have HY := Lib.hid hy
      clear hx hy
      go_enter Try.func3, Try.ntmps3
      go_wp2_with fail
      go_region
      go_wp2_with (first
        | (go_at_call 9; ((with_reducible refine HF.out.mono ?_); rintro e w1 ⟨p, A', c', rfl, h1⟩); have H1 := Lib.hid h1.box; clear h1)
        | (go_at_call 10; ((with_reducible refine (HQ.out _).mono ?_); rintro e w9 ⟨rfl, rfl⟩))
        | (go_at_call 12; ((with_reducible refine (lx_one H1.out HX.out).mono ?_); rintro e w2 ⟨rfl, h2⟩); have H2 := Lib.hid h2; obtain ⟨d2, d0, d1⟩ := h2.2; clear h2)
        | (go_at_call 13; ((with_reducible refine (lx_rone H2.out HX.out).mono ?_); rintro e w3 ⟨rfl, h3⟩); have H3 := Lib.hid h3; clear h3))
      have H4 := Lib.hid (H3.out.below (Below.refl w3.heap.size w3).drew)
      have K1 := Lib.hid H4.out.2
      obtain ⟨nb, hnb⟩ : ∃ nb, w1.heap.size = nb := ⟨_, rfl⟩
      rw [hnb] at H4 K1
      rw [hnb]
      go_region_held3 (fun w => nb < w.heap.size ∧ w.cell? ⟨nb, 0, none⟩ = some (.int .i64 60) ∧ w.cell? ⟨nb, 1, none⟩ = some (.slice A' L.length c'))
        (first | (exact K1.out))
        (first
          | (go_at_call 11; ((with_reducible refine (lx_alive H4.out).mono ?_); rintro e w5 ⟨rfl, h5⟩); have H5 := Lib.hid h5; have K1 := Lib.hid h5.2; clear h5)
          | (go_at_call 14; ((with_reducible refine (lx_sat H5.out HY.out).mono ?_); rintro e w6 ⟨rfl, h6⟩); have H6 := Lib.hid h6; have K1 := Lib.hid h6.2; clear h6)
          | (go_at_call 15; ((with_reducible refine (lx_rsat H6.out HY.out).mono ?_); rintro e w7 ⟨rfl, h7⟩); have H7 := Lib.hid h7; have K1 := Lib.hid h7.2; clear h7))
      go_wp2_with fail
      go_ret
      exact ⟨rfl, H7.out.lv.low⟩
end Go.Proofs.Ytcolinjgfcjimaa
