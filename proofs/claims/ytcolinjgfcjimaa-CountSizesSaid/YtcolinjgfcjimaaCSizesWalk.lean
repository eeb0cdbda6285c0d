/- The walk of CountSizes. -/
import Derived.Test.YtcolinjgfcjimaaCLawRef
import Derived.Test.YtcolinjgfcjimaaCRefSize
import Derived.Test.YtcolinjgfcjimaaCRefVals
import Derived.Test.YtcolinjgfcjimaaCFitsWalk
namespace Go.Proofs.Ytcolinjgfcjimaa
open Go.RowKit
attribute [local go_sem ↓] Go.wp_at_zero Go.wp_at_succ

theorem rise_nodup {V : List Int} (h : V.Pairwise fun x y => x < y) : V.Nodup := List.Pairwise.imp (fun h => Int.ne_of_lt h) h
theorem vals_told {L : List Nd} (hR : RightL L) {f : Int} (hf : hasP L.length f = true) {R : List Int} (h2 : ∀ r, r ∈ R ↔ Reach L f r) (x : Int) : x ∈ valsP R ↔ ∃ n, n < 4096 ∧ valueP (endP L n f) = x := by
  unfold valsP
  rw [List.mem_map]
  constructor
  · rintro ⟨t, ht, rfl⟩
    rw [List.mem_filter, decide_eq_true_eq] at ht
    obtain ⟨n, hn, he⟩ := reach_told hR f t ((h2 t).1 ht.1) ht.2
    exact ⟨n, hn, by rw [he]⟩
  · rintro ⟨n, hn, rfl⟩
    refine ⟨endP L n f, List.mem_filter.2 ⟨(h2 _).2 (told_reach hR n f), ?_⟩, rfl⟩
    have h1 := (told_reach hR n f).has hR hf
    have h3 := endP_end hR n f
    rw [hasP_iff] at h1
    simp only [decide_eq_true_eq]
    omega
section
variable {w W W1 : World} {p c nb : Nat} {A : Option Addr} {L : List Nd} {f : Int}
theorem valsX_is (hR : RightL L) {R V : List Int} (hf : hasP L.length f = true) (h1 : R.Nodup) (h2 : ∀ r, r ∈ R ↔ Reach L f r) (hV : V.Pairwise fun x y => x < y) (hm : ∀ x, x ∈ V ↔ ∃ n, n < 4096 ∧ valueP (endP L n f) = x) : sortP (valsP R) = V :=
  sort_is (perm_same (vals_nodup hR hf h1 h2) (rise_nodup hV) fun x => (vals_told hR hf h2 x).trans (hm x).symm) (hV.imp fun h => Int.le_of_lt h)
/-- A row of what is told. -/
def ValsX (L : List Nd) (f : Int) (V : List Int) : Prop := ∃ R : List Int, (hasP L.length f = true → R.Nodup ∧ (∀ r, r ∈ R ↔ Reach L f r) ∧ V = sortP (valsP R)) ∧ (hasP L.length f = false → V = []) ∧ V.length ≤ 8001
theorem lx_vals (h : Lx w p L A c nb W) : Calls Try.prog 16 #[.pointer (some ⟨p, 0, none⟩), .int .i64 f] W fun e w' => ∃ A2 c2 V, e = .returned (.slice A2 V.length c2) ∧ Lx w p L A c nb w' ∧ IRow w' A2 V ∧ ValsX L f V := by
  have ⟨own, h1, h2⟩ := h.lv
  cases hf : hasP L.length f with
  | true =>
    refine (values_any h1 hf).mono fun _ _ ⟨R, v, he, hr, hnd, hrr, hlen, hb⟩ => ?_
    obtain ⟨A2, c2, rfl, hI⟩ := irow_of hr
    exact ⟨A2, c2, _, he, h.below hb, hI, R, fun _ => ⟨hnd, hrr, rfl⟩, fun h => (by rw [hf] at h; cases h), by rw [sort_len]; exact Nat.le_trans (vals_len _) hlen⟩
  | false =>
    refine (values_none h1 hf).mono fun _ _ ⟨he, hw⟩ => ?_
    subst hw
    exact ⟨none, 0, [], he, h, fun i x hx => (by simp at hx), [], fun h => (by rw [hf] at h; cases h), fun _ => rfl, by simp⟩
theorem lx_rvals {V : List Int} (h : Lx w p L A c nb W) (hV : ValsX L f V) : Calls Try.prog 17 #[.agg #[.int .i64 60, .slice A L.length c], .int .i64 f] W fun e w' => ∃ A2 c2, e = .returned (.slice A2 V.length c2) ∧ Lx w p L A c nb w' ∧ IRow w' A2 V ∧ Below W.heap.size W w' := by
  obtain ⟨R, k1, k2, -⟩ := hV
  cases hf : hasP L.length f with
  | true =>
    obtain ⟨hnd, hrr, rfl⟩ := k1 hf
    refine (rvals_any (lim := 60) h.ref h.lv.right hf).mono fun _ _ ⟨U, v, he, hr, hU, hm, _, hb⟩ => ?_
    rw [valsX_is h.lv.right hf hnd hrr hU hm]
    obtain ⟨A2, c2, rfl, hI⟩ := irow_of hr
    exact ⟨A2, c2, he, h.below hb, hI, hb⟩
  | false =>
    obtain rfl := k2 hf
    refine (rvals_none (lim := 60) h.ref hf).mono fun _ _ ⟨he, hb⟩ => ?_
    exact ⟨none, 0, he, h.below hb, fun i x hx => (by simp at hx), hb⟩
theorem lx_size (h : Lx w p L A c nb W) : Calls Try.prog 18 #[.pointer (some ⟨p, 0, none⟩), .int .i64 f] W fun e w' => ∃ y : Int, e = .returned (.int .i64 y) ∧ SizeX L f y ∧ Lx w p L A c nb w' := by
  have ⟨own, h1, h2⟩ := h.lv
  by_cases hf : hasP L.length f = true
  · exact (size_any h1 hf).mono fun _ _ ⟨R, he, hnd, hrr, hb⟩ => ⟨_, he, by unfold SizeX; rw [if_pos hf]; exact ⟨R, hnd, hrr, rfl⟩, h.below hb⟩
  · refine (size_none h1 (by simpa using hf)).mono fun _ _ ⟨he, hw⟩ => ?_
    subst hw
    exact ⟨0, he, by unfold SizeX; rw [if_neg hf], h⟩
theorem lx_rsize {y : Int} (h : Lx w p L A c nb W) (hy : SizeX L f y) : Calls Try.prog 19 #[.agg #[.int .i64 60, .slice A L.length c], .int .i64 f] W fun e w' => e = .returned (.int .i64 y) ∧ Lx w p L A c nb w' :=
  (rsize_any (lim := 60) h.ref h.lv.right).mono fun _ _ ⟨z, he, hz, hb⟩ => ⟨by rw [he, hy.one hz], h.below hb⟩
theorem lx_depth {y : Nat} (h : Lx w p L A c nb W) (hy : depthN L f = y) : Calls Try.prog 20 #[.pointer (some ⟨p, 0, none⟩), .int .i64 f] W fun e w' => e = .returned (.int .i64 y) ∧ Lx w p L A c nb w' := by
  have ⟨own, h1, h2⟩ := h.lv
  subst hy
  exact (depth_any (f := f) h1).mono fun _ _ ⟨he, hb⟩ => ⟨he, h.below hb⟩
theorem lx_rdepth {y : Nat} (h : Lx w p L A c nb W) (hy : depthN L f = y) : Calls Try.prog 21 #[.agg #[.int .i64 60, .slice A L.length c], .int .i64 f] W fun e w' => e = .returned (.int .i64 y) ∧ Lx w p L A c nb w' := by
  subst hy
  exact (rdep_all (lim := 60) h.lv.right f W A c h.ref).mono fun _ _ ⟨he, hb⟩ => ⟨he, h.below hb⟩
end
set_option maxRecDepth 100000 in
set_option maxHeartbeats 6400000 in
theorem sizes_walk (f : Nat → Nd) (A : Option Addr) (m c : Nat) (r : Int) (w : World) (_ : m ≤ 9223372036854775807) (_ : m ≤ c) (hO : Ops w A m f) (_ : -9223372036854775808 ≤ r ∧ r ≤ 9223372036854775807) :
    Calls Try.prog 4 #[.slice A m c, .int .i64 r] w fun e w' => e = .returned (.bool true) ∧ Below w.heap.size w w' := by
  have HB0 := Lib.hid (Below.refl w.heap.size w)
  by_cases hm : 60 < m
  · have HF := Lib.hid (build_no (A := A) (c := c) HB0.out hm)
    have hd : decide (24 < (m : Int)) = true := decide_eq_true (by omega)
    go_enter Try.func4, Try.ntmps4
    go_wp2_with (first
      | (go_at_call 9; ((with_reducible refine HF.out.mono ?_); rintro e w1 ⟨rfl, hb1⟩); have HB1 := Lib.hid (hb1.trans ((Below.refl _ _).alloc hb1.size (.cells #[.int .i64 60, .slice none 0 0] 27))); clear hb1)
      | (go_at_call 11; ((with_reducible refine (alive_in HB1.out).mono ?_); rintro e w2 ⟨rfl, hb2⟩)))
    go_ret
    exact ⟨rfl, hb2⟩
  · have HF := Lib.hid (build_lr (c := c) HB0.out (by omega) hO)
    obtain ⟨L, hL⟩ : ∃ L, scr 60 [] f m = L := ⟨_, rfl⟩
    rw [hL] at HF
    clear hL
    by_cases hq : 24 < m
    · have HQ := Lib.hid (few_is (A := A) (c := c) (decide_eq_false (show ¬ m ≤ 24 by omega)))
      have hd : decide (24 < (m : Int)) = true := decide_eq_true (by omega)
      go_enter Try.func4, Try.ntmps4
      go_wp2_with (first
        | (go_at_call 9; ((with_reducible refine HF.out.mono ?_); rintro e w1 ⟨p, A', c', rfl, h1⟩); have H1 := Lib.hid h1.box; clear h1)
        | (go_at_call 10; ((with_reducible refine (HQ.out _).mono ?_); rintro e w9 ⟨rfl, rfl⟩))
        | (go_at_call 11; ((with_reducible refine (lx_alive H1.out).mono ?_); rintro e w2 ⟨rfl, h2⟩)))
      go_ret
      exact ⟨rfl, h2.lv.low⟩
    · have HQ := Lib.hid (few_is (A := A) (c := c) (decide_eq_true (show m ≤ 24 by omega)))
      obtain ⟨dp, hdp⟩ : ∃ dp, depthN L r = dp := ⟨_, rfl⟩
      have HD := Lib.hid hdp
      clear hdp
      go_enter Try.func4, Try.ntmps4
      go_wp2_with (first
        | (go_at_call 9; ((with_reducible refine HF.out.mono ?_); rintro e w1 ⟨p, A', c', rfl, h1⟩); have H1 := Lib.hid h1.box; clear h1)
        | (go_at_call 10; ((with_reducible refine (HQ.out _).mono ?_); rintro e w9 ⟨rfl, rfl⟩)))
      obtain ⟨W5, hW5⟩ : ∃ W5, w1.alloc (.cells #[.int .i64 60, .slice A' L.length c'] 27) = W5 := ⟨_, rfl⟩
      obtain ⟨nb, hnb⟩ : ∃ nb, w1.heap.size = nb := ⟨_, rfl⟩
      rw [hW5, hnb] at H1
      rw [hW5, hnb]
      clear hW5 hnb
      have H1 := Lib.hid (H1.out.below (Below.refl W5.heap.size W5).drew)
      have K1 := Lib.hid H1.out.2
      go_region_held3 (fun w => nb < w.heap.size ∧ w.cell? ⟨nb, 0, none⟩ = some (.int .i64 60) ∧ w.cell? ⟨nb, 1, none⟩ = some (.slice A' L.length c'))
        (first | (exact K1.out))
        (first
          | (go_at_call 16; ((with_reducible refine (lx_vals H1.out).mono ?_); rintro e w2 ⟨Ac, cc, V, rfl, h2, k2, hx2⟩); have H2 := Lib.hid h2; have K1 := Lib.hid h2.2; have R2 := Lib.hid k2; have HX := Lib.hid hx2; clear h2 k2 hx2)
          | (go_at_call 17; ((with_reducible refine (lx_rvals H2.out HX.out).mono ?_); rintro e w3 ⟨Aw, cw, rfl, h3, k3, b3⟩); have H3 := Lib.hid h3; have K1 := Lib.hid h3.2; have R3 := Lib.hid k3; have R4 := Lib.hid (R2.out.below b3); clear h3 k3 b3))
      have HN : Hid (V.length ≤ 8001) := Lib.hid (by
        obtain ⟨R, -, -, h⟩ := HX.out
        exact h)
      obtain ⟨N, hN⟩ : ∃ N, V.length = N := ⟨_, rfl⟩
      rw [hN] at HN ⊢
      have HNe := Lib.hid hN
      have hN4 := HN.out
      clear hN
      go_wp2_with fail
      go_loopg [43] N (fun gk t43 wr => ∃ i : Nat, i + gk = N ∧ t43 = .int .i64 (i : Int) ∧ Lx w p L A' c' nb wr ∧ IRow wr Ac V ∧ IRow wr Aw V)
      case atStart => exact ⟨0, by omega, rfl, H3.out, R4.out, R3.out⟩
      case round =>
        rename Nat => g0
        obtain ⟨i, hi, rfl, hB, hK, hM⟩ := hrel
        have hdr := (Below.refl wr.heap.size wr).drew
        have HBd := Lib.hid (hB.below hdr)
        have HKd := Lib.hid (hK.below hdr)
        have HMd := Lib.hid (hM.below hdr)
        have HI := Lib.hid hi
        by_cases him : i < N
        · obtain ⟨x, hx⟩ : ∃ x, V[i]? = some x := ⟨_, List.getElem?_eq_getElem (by have := HNe.out; omega)⟩
          obtain ⟨g, rfl, hg, q0⟩ := hK i x hx
          obtain ⟨g2, rfl, hg2, q1⟩ := hM i x hx
          clear hx hB hK hM hdr hi
          go_wp2_with fail
          go_region
          go_wp2_with fail
          have hi := HI.out
          go_roundg (g0 - 1)
          case measure => omega
          case rel => exact ⟨i + 1, by omega, by simp, HBd.out, HKd.out, HMd.out⟩
        · have hie : i = N := by have := HI.out; omega
          subst hie
          have H4 := HBd
          have K1 := Lib.hid H4.out.2
          clear hB hK hM hdr hi HKd HMd
          go_wp2_with fail
          go_region_held3 (fun w => nb < w.heap.size ∧ w.cell? ⟨nb, 0, none⟩ = some (.int .i64 60) ∧ w.cell? ⟨nb, 1, none⟩ = some (.slice A' L.length c'))
            (first | (exact K1.out))
            (first
              | (go_at_call 11; ((with_reducible refine (lx_alive H4.out).mono ?_); rintro e w5 ⟨rfl, h5⟩); have H5 := Lib.hid h5; have K1 := Lib.hid h5.2; clear h5)
              | (go_at_call 18; ((with_reducible refine (lx_size H5.out).mono ?_); rintro e w6 ⟨y, rfl, hy, h6⟩); have HY := Lib.hid hy; have H6 := Lib.hid h6; have K1 := Lib.hid h6.2; clear h6 hy)
              | (go_at_call 19; ((with_reducible refine (lx_rsize H6.out HY.out).mono ?_); rintro e w7 ⟨rfl, h7⟩); have H7 := Lib.hid h7; have K1 := Lib.hid h7.2; clear h7)
              | (go_at_call 20; ((with_reducible refine (lx_depth H7.out HD.out).mono ?_); rintro e w8 ⟨rfl, h8⟩); have H8 := Lib.hid h8; have K1 := Lib.hid h8.2; clear h8)
              | (go_at_call 21; ((with_reducible refine (lx_rdepth H8.out HD.out).mono ?_); rintro e w9 ⟨rfl, h9⟩); have H9 := Lib.hid h9; have K1 := Lib.hid h9.2; clear h9))
          go_wp2_with fail
          go_ret
          exact ⟨rfl, H9.out.lv.low⟩
end Go.Proofs.Ytcolinjgfcjimaa
