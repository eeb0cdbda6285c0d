/- The walk of CountSums. -/
import Derived.Test.YtcolinjgfcjimaaCFitsWalk
import Derived.Test.YtcolinjgfcjimaaCSumMath
import Derived.Deep.LoopGhost
namespace Go.Proofs.Ytcolinjgfcjimaa
open Go.RowKit
attribute [local go_sem ↓] Go.wp_at_zero Go.wp_at_succ

section
variable {w W W1 : World} {p : Nat} {L : List Nd}
/-- A row of numbers. -/
def IRow (W : World) (A : Option Addr) (V : List Int) : Prop := ∀ i x, V[i]? = some x → ∃ g, A = some ⟨g, 0, none⟩ ∧ g < W.heap.size ∧ W.cell? ⟨g, i, none⟩ = some (.int .i64 x)
theorem IRow.below {A : Option Addr} {V : List Int} (h : IRow W A V) (hb : Below W.heap.size W W1) : IRow W1 A V := fun i x hx => by
  obtain ⟨g, h1, h2, h3⟩ := h i x hx
  exact ⟨g, h1, Nat.lt_of_lt_of_le h2 hb.size, (hb.cell (p := ⟨g, _, none⟩) h2).trans h3⟩
theorem irow_of {base : Nat} {v : Value} {V : List Int} (h : W.ownsRow base 3 1 v V.length (V.map (Value.int .i64))) : ∃ A c, v = .slice A V.length c ∧ IRow W A V := by
  match hC : V, h with
  | [], h =>
    rcases h.2 with ⟨h1, -⟩ | ⟨g, cap, cur, h1, -⟩
    · exact ⟨_, _, h1, fun i c hc => by simp at hc⟩
    · exact ⟨_, _, h1, fun i c hc => by simp at hc⟩
  | x :: V', h =>
    obtain ⟨g, c, rfl⟩ := row_form (n := V'.length) h
    refine ⟨_, _, rfl, fun i y hy => ?_⟩
    have hi := (List.getElem?_eq_some_iff.1 hy).1
    simp only [List.length_cons] at hi
    refine ⟨g, rfl, (World.ownsRow.lt h g rfl).2, ?_⟩
    exact (h.cellAt i (by omega)).trans (by rw [List.getElem?_map, hy]; rfl)
theorem lv_vals {f : Int} (h : Lv w p L W) (hf : hasP L.length f = true) : Calls Try.prog 16 #[.pointer (some ⟨p, 0, none⟩), .int .i64 f] W fun e w' => ∃ A c R, e = .returned (.slice A (sortP (valsP R)).length c) ∧ Lv w p L w' ∧ IRow w' A (sortP (valsP R)) ∧ R.Nodup ∧ (∀ r, r ∈ R ↔ Reach L f r) ∧ R.length ≤ 8001 := by
  have ⟨own, h1, h2⟩ := h
  refine (values_any h1 hf).mono fun _ _ ⟨R, v, he, hr, g1, g2, g3, hb⟩ => ?_
  obtain ⟨A, c, rfl, hc⟩ := irow_of hr
  exact ⟨A, c, R, he, h.below hb, hc, g1, g2, g3⟩
theorem below_all (hR : RightL L) {f : Int} (hf : hasP L.length f = true) : Below12 L f 12 := ⟨by omega, hf, fun r hr => by
  by_cases h0 : r < 0
  · exact .inl h0
  · have hh := hr.has hR hf
    rw [hasP_iff] at hh
    have hx : L[r.toNat]? = some L[r.toNat] := List.getElem?_eq_getElem (by omega)
    have h := (hR.1 _ _ hx).1
    have e := varP_at hx
    rw [show ((r.toNat : Nat) : Int) = r by omega] at e
    rw [e]
    exact .inr h.2⟩
theorem lv_sat {f val : Int} {x : Nat} (h : Lv w p L W) (hf : hasP L.length f = true) (hx : satN L 12 val f = x) : Calls Try.prog 14 #[.pointer (some ⟨p, 0, none⟩), .int .i64 f, .int .i64 val, .int .i64 12] W fun e w' => e = .returned (.int .i64 (x : Int)) ∧ Lv w p L w' ∧ Below W.heap.size W w' := by
  have ⟨own, h1, h2⟩ := h
  refine (sat_any h1 val 12).mono fun _ _ ⟨y, he, g1, _, hb⟩ => ⟨?_, h.below hb, hb⟩
  rw [he, g1 (below_all h.right hf), ← hx]
  rfl
end
theorem satsN_step {L : List Nd} {V : List Int} {f v : Int} {i : Nat} (hv : V[i]? = some v) : satsN L (V.take (i + 1)) f = satsN L (V.take i) f + satN L 12 v f := by
  unfold satsN
  rw [List.take_add_one, hv, List.map_append, List.sum_append]
  simp
theorem satsN_take {L : List Nd} {V : List Int} {f : Int} (i : Nat) : satsN L (V.take i) f ≤ satsN L V f := by
  unfold satsN
  have := congrArg (fun l => (l.map fun v => satN L 12 v f).sum) (List.take_append_drop i V)
  simp only [List.map_append, List.sum_append] at this
  omega
set_option maxRecDepth 100000 in
set_option maxHeartbeats 6400000 in
theorem sums_walk (f : Nat → Nd) (A : Option Addr) (m c : Nat) (r : Int) (w : World) (_ : m ≤ 9223372036854775807) (_ : m ≤ c) (hO : Ops w A m f) (_ : -9223372036854775808 ≤ r ∧ r ≤ 9223372036854775807) :
    Calls Try.prog 7 #[.slice A m c, .int .i64 r] w fun e w' => e = .returned (.bool true) ∧ Below w.heap.size w w' := by
  have HB0 := Lib.hid (Below.refl w.heap.size w)
  by_cases hm : 60 < m
  · have HF := Lib.hid (build_no (A := A) (c := c) HB0.out hm)
    go_enter Try.func7, Try.ntmps7
    go_wp2_with (first
      | (go_at_call 9; ((with_reducible refine HF.out.mono ?_); rintro e w1 ⟨rfl, hb1⟩); have HB1 := Lib.hid (hb1.trans ((Below.refl _ _).alloc hb1.size (.cells #[.int .i64 60, .slice none 0 0] 27))); clear hb1)
      | (go_at_call 11; ((with_reducible refine (alive_in HB1.out).mono ?_); rintro e w2 ⟨rfl, hb2⟩)))
    go_ret
    exact ⟨rfl, hb2⟩
  · have HF := Lib.hid (build_lv (c := c) HB0.out (by omega) hO)
    obtain ⟨L, hL⟩ : ∃ L, scr 60 [] f m = L := ⟨_, rfl⟩
    rw [hL] at HF
    clear hL
    by_cases hq : 24 < m
    · have HQ := Lib.hid (few_is (A := A) (c := c) (decide_eq_false (show ¬ m ≤ 24 by omega)))
      go_enter Try.func7, Try.ntmps7
      go_wp2_with (first
        | (go_at_call 9; ((with_reducible refine HF.out.mono ?_); rintro e w1 ⟨p, A', c', rfl, h1⟩); have H1 := Lib.hid (h1.below ((Below.refl _ _).alloc (Nat.le_refl _) (.cells #[.int .i64 60, .slice A' L.length c'] 27))); clear h1)
        | (go_at_call 10; ((with_reducible refine (HQ.out _).mono ?_); rintro e w9 ⟨rfl, rfl⟩))
        | (go_at_call 11; ((with_reducible refine (lv_alive H1.out).mono ?_); rintro e w2 ⟨rfl, h2, -⟩)))
      go_ret
      exact ⟨rfl, h2.low⟩
    · have HQ := Lib.hid (few_is (A := A) (c := c) (decide_eq_true (show m ≤ 24 by omega)))
      by_cases hf : hasP L.length r = true
      · have HH := Lib.hid hf
        clear hf
        go_enter Try.func7, Try.ntmps7
        go_wp2_with (first
          | (go_at_call 9; ((with_reducible refine HF.out.mono ?_); rintro e w1 ⟨p, A', c', rfl, h1⟩); have H1 := Lib.hid (h1.below ((Below.refl _ _).alloc (Nat.le_refl _) (.cells #[.int .i64 60, .slice A' L.length c'] 27))); clear h1)
          | (go_at_call 10; ((with_reducible refine (HQ.out _).mono ?_); rintro e w9 ⟨rfl, rfl⟩))
          | (go_at_call 24; ((with_reducible refine (lv_has H1.out HH.out).mono ?_); rintro e w9 ⟨rfl, rfl⟩))
          | (go_at_call 16; ((with_reducible refine (lv_vals H1.out HH.out).mono ?_); rintro e w2 ⟨Ac, cc, R, rfl, h2, k2, n2, r2, l2⟩); have H2 := Lib.hid h2; have K2 := Lib.hid k2; have HS := Lib.hid (sats_vals h2.right HH.out n2 r2); have HN : Hid ((sortP (valsP R)).length ≤ 8001) := Lib.hid (by rw [sort_len]; unfold valsP; rw [List.length_map]; exact Nat.le_trans (List.length_filter_le _ _) l2); clear h2 k2 n2 r2 l2))
        obtain ⟨V, hV⟩ : ∃ V, sortP (valsP R) = V := ⟨_, rfl⟩
        rw [hV] at HN HS K2 ⊢
        clear hV
        obtain ⟨N, hN⟩ : ∃ N, V.length = N := ⟨_, rfl⟩
        rw [hN] at HN ⊢
        have HNe := Lib.hid hN
        have hN4 := HN.out
        clear hN
        go_loopg [8, 35] N (fun gk t8 t35 wr => ∃ i : Nat, i + gk = N ∧ t35 = .int .i64 (i : Int) ∧ t8 = .int .i64 ((satsN L (V.take i) r : Nat) : Int) ∧ Lv w p L wr ∧ IRow wr Ac V)
        case atStart => exact ⟨0, by omega, rfl, rfl, H2.out, K2.out⟩
        case round =>
          obtain ⟨i, hi, rfl, rfl, hB, hK⟩ := hrel
          have HB := Lib.hid hB
          have HK := Lib.hid hK
          have HI := Lib.hid hi
          clear hB hK hi
          by_cases him : i < N
          · obtain ⟨x, hx⟩ : ∃ x, V[i]? = some x := ⟨_, List.getElem?_eq_getElem (by have := HNe.out; omega)⟩
            obtain ⟨g, rfl, hg, q0⟩ := HK.out i x hx
            have hs := satsN_step (L := L) (f := r) hx
            have hle : satsN L (V.take (i + 1)) r ≤ 4096 := HS.out ▸ satsN_take (i + 1)
            obtain ⟨fi, hfi⟩ : ∃ fi, satsN L (V.take i) r = fi := ⟨_, rfl⟩
            obtain ⟨y, hy⟩ : ∃ y, satN L 12 x r = y := ⟨_, rfl⟩
            have HY := Lib.hid hy
            rw [hs, hfi, hy] at hle
            rw [hfi, hy] at hs
            rw [hfi]
            have HSt := Lib.hid hs
            clear hx hfi hy hs
            go_wp2_with (first
              | (go_at_call 14; ((with_reducible refine (lv_sat HB.out HH.out HY.out).mono ?_); rintro e w3 ⟨rfl, h3, hb3⟩); have H3 := Lib.hid h3; have K3 := Lib.hid (HK.out.below hb3); clear h3 hb3))
            have hi := HI.out
            go_roundg (gk - 1)
            case measure => omega
            case rel => exact ⟨i + 1, by omega, by simp, by rw [HSt.out]; simp, H3.out, K3.out⟩
          · have hie : i = N := by have := HI.out; omega
            subst hie
            have ht : V.take i = V := List.take_of_length_le (by have := HNe.out; omega)
            rw [ht, HS.out]
            go_wp2_with (first
              | (go_at_call 11; ((with_reducible refine (lv_alive HB.out).mono ?_); rintro e w4 ⟨rfl, h4, -⟩)))
            go_ret
            exact ⟨rfl, h4.low⟩
      · have HH := Lib.hid (show hasP L.length r = false by simpa using hf)
        clear hf
        go_enter Try.func7, Try.ntmps7
        go_wp2_with (first
          | (go_at_call 9; ((with_reducible refine HF.out.mono ?_); rintro e w1 ⟨p, A', c', rfl, h1⟩); have H1 := Lib.hid (h1.below ((Below.refl _ _).alloc (Nat.le_refl _) (.cells #[.int .i64 60, .slice A' L.length c'] 27))); clear h1)
          | (go_at_call 10; ((with_reducible refine (HQ.out _).mono ?_); rintro e w9 ⟨rfl, rfl⟩))
          | (go_at_call 24; ((with_reducible refine (lv_has H1.out HH.out).mono ?_); rintro e w9 ⟨rfl, rfl⟩))
          | (go_at_call 11; ((with_reducible refine (lv_alive H1.out).mono ?_); rintro e w2 ⟨rfl, h2, -⟩)))
        go_ret
        exact ⟨rfl, h2.low⟩
end Go.Proofs.Ytcolinjgfcjimaa
