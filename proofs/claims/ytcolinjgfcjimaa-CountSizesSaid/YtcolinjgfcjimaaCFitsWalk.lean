/- The walk of CountFits. -/
import Derived.Test.YtcolinjgfcjimaaCLaw
import Derived.Deep.LoopGhost
namespace Go.Proofs.Ytcolinjgfcjimaa
open Go.RowKit
attribute [local go_sem ↓] Go.wp_at_zero Go.wp_at_succ

theorem fitN_step {b i : Nat} {C : List Cb} {c : Cb} (hc : C[i]? = some c) : fitN b (C.take (i + 1)) = fitN b (C.take i) + if b &&& c.1 = c.2 then 1 else 0 := by
  unfold fitN
  rw [List.take_add_one, hc, List.countP_append]
  by_cases h : b &&& c.1 = c.2
  · simp [h]
  · simp [h]
theorem and_eq {b m c : Nat} (hb : b < 18446744073709551616) (hm : m < 4096) : (bits .and .u64 (b : Int) (m : Int) == (c : Int)) = decide (b &&& m = c) := by
  rw [bits_and_u64_nat b m hb (by omega), Bool.eq_iff_iff]
  simp
  omega
theorem few_is {A : Option Addr} {m c : Nat} {x : Bool} (h : decide (m ≤ 24) = x) (w : World) : Calls Try.prog 10 #[.slice A m c] w fun e w' => e = .returned (.bool x) ∧ w' = w := by
  rw [← h]
  exact few_any A m c w
set_option maxRecDepth 100000 in
set_option maxHeartbeats 6400000 in
theorem fits_walk (f : Nat → Nd) (A : Option Addr) (m c : Nat) (r val : Int) (b : Nat) (w : World) (_ : m ≤ 9223372036854775807) (_ : m ≤ c) (hO : Ops w A m f) (_ : -9223372036854775808 ≤ r ∧ r ≤ 9223372036854775807) (_ : -9223372036854775808 ≤ val ∧ val ≤ 9223372036854775807) (hbb : b < 18446744073709551616) :
    Calls Try.prog 6 #[.slice A m c, .agg #[.int .i64 r, .int .i64 val], .int .u64 (b : Int)] w fun e w' => e = .returned (.bool true) ∧ Below w.heap.size w w' := by
  have HBB := Lib.hid hbb
  clear hbb
  have hb0 := (Below.refl w.heap.size w).alloc (Nat.le_refl _) (.cells #[.int .i64 r, .int .i64 val] 23)
  have hk := Blk.new w 23 #[.int .i64 r, .int .i64 val]
  have k0 : (w.alloc (.cells #[.int .i64 r, .int .i64 val] 23)).cell? ⟨w.heap.size, 0, none⟩ = some (.int .i64 r) := hk.cell 0
  have k1 : (w.alloc (.cells #[.int .i64 r, .int .i64 val] 23)).cell? ⟨w.heap.size, 1, none⟩ = some (.int .i64 val) := hk.cell 1
  have HB0 := Lib.hid hb0.drew
  clear hb0 hk
  by_cases hm : 60 < m
  · have HF := Lib.hid (build_no (A := A) (c := c) HB0.out hm)
    go_enter Try.func6, Try.ntmps6
    go_wp2_with fail
    go_region
    go_wp2_with (first
      | (go_at_call 9; ((with_reducible refine HF.out.mono ?_); rintro e w1 ⟨rfl, hb1⟩); have HB1 := Lib.hid (hb1.trans ((Below.refl _ _).alloc hb1.size (.cells #[.int .i64 60, .slice none 0 0] 27))); clear hb1)
      | (go_at_call 11; ((with_reducible refine (alive_in HB1.out).mono ?_); rintro e w2 ⟨rfl, hb2⟩)))
    go_ret
    exact ⟨rfl, hb2⟩
  · have HF := Lib.hid (build_lv (c := c) HB0.out (by omega) hO)
    obtain ⟨L, hL⟩ : ∃ L, scr 60 [] f m = L := ⟨_, rfl⟩
    rw [hL] at HF
    clear hL
    by_cases hq : 24 < m
    · have HQ := Lib.hid (few_is (A := A) (c := c) (decide_eq_false (show ¬ m ≤ 24 by omega)))
      go_enter Try.func6, Try.ntmps6
      go_wp2_with fail
      go_region
      go_wp2_with (first
        | (go_at_call 9; ((with_reducible refine HF.out.mono ?_); rintro e w1 ⟨p, A', c', rfl, h1⟩); have H1 := Lib.hid (h1.below ((Below.refl _ _).alloc (Nat.le_refl _) (.cells #[.int .i64 60, .slice A' L.length c'] 27))); clear h1)
        | (go_at_call 10; ((with_reducible refine (HQ.out _).mono ?_); rintro e w9 ⟨rfl, rfl⟩))
        | (go_at_call 11; ((with_reducible refine (lv_alive H1.out).mono ?_); rintro e w2 ⟨rfl, h2, -⟩)))
      go_ret
      exact ⟨rfl, h2.low⟩
    · have HQ := Lib.hid (few_is (A := A) (c := c) (decide_eq_true (show m ≤ 24 by omega)))
      by_cases hf : hasP L.length r = true
      · obtain ⟨C, hC⟩ : ∃ C, cubesP L val r = C := ⟨_, rfl⟩
        obtain ⟨y, hy⟩ : ∃ y, endP L b r = y := ⟨_, rfl⟩
        have HC := Lib.hid hC
        have HY := Lib.hid hy
        have HH := Lib.hid hf
        clear hC hy hf
        go_enter Try.func6, Try.ntmps6
        go_wp2_with fail
        go_region
        go_wp2_with (first
          | (go_at_call 9; ((with_reducible refine HF.out.mono ?_); rintro e w1 ⟨p, A', c', rfl, h1⟩); have H1 := Lib.hid (h1.below ((Below.refl _ _).alloc (Nat.le_refl _) (.cells #[.int .i64 60, .slice A' L.length c'] 27))); clear h1)
          | (go_at_call 10; ((with_reducible refine (HQ.out _).mono ?_); rintro e w9 ⟨rfl, rfl⟩))
          | (go_at_call 24; ((with_reducible refine (lv_has H1.out HH.out).mono ?_); rintro e w9 ⟨rfl, rfl⟩))
          | (go_at_call 22; ((with_reducible refine (lv_cubes H1.out HC.out).mono ?_); rintro e w2 ⟨Ac, cc, rfl, h2, k2⟩); have H2 := Lib.hid h2; have K2 := Lib.hid k2; clear h2 k2))
        have HN : Hid (C.length ≤ 4096) := Lib.hid (by
          rw [← HC.out]
          unfold cubesP
          split
          · exact Nat.le_trans (cubesOf_len _ _) (ways_few H2.out.right _)
          · simp)
        have HLt : Hid (∀ x ∈ C, x.1 < 4096 ∧ x.2 < 4096) := Lib.hid (fun x hx => by
          rw [← HC.out] at hx
          unfold cubesP at hx
          rw [if_pos HH.out] at hx
          unfold cubesL cubesOf at hx
          obtain ⟨z, hz, rfl⟩ := List.mem_map.1 hx
          exact ways_lt H2.out.right _ z (List.mem_filter.1 hz).1)
        have HW : Hid (fitN b C = if valueP y = val then 1 else 0) := Lib.hid (by
          rw [← HC.out, ← HY.out]
          unfold cubesP
          rw [if_pos HH.out]
          exact fitN_is H2.out.right b val r)
        obtain ⟨N, hN⟩ : ∃ N, C.length = N := ⟨_, rfl⟩
        rw [hN] at HN ⊢
        have HNe := Lib.hid hN
        have hN4 := HN.out
        clear hN
        go_loopg [12, 45] N (fun gk t12 t45 wr => ∃ i : Nat, i + gk = N ∧ t45 = .int .i64 (i : Int) ∧ t12 = .int .i64 ((fitN b (C.take i) : Nat) : Int) ∧ Lv w p L wr ∧ CRow wr Ac C)
        case atStart => exact ⟨0, by omega, rfl, rfl, H2.out, K2.out⟩
        case round =>
          obtain ⟨i, hi, rfl, rfl, hB, hK⟩ := hrel
          have HB := Lib.hid hB
          have HK := Lib.hid hK
          have HI := Lib.hid hi
          clear hB hK hi
          by_cases him : i < N
          · obtain ⟨x, hx⟩ : ∃ x, C[i]? = some x := ⟨_, List.getElem?_eq_getElem (by have := HNe.out; omega)⟩
            obtain ⟨g, rfl, hg, q0, q1⟩ := HK.out i x hx
            obtain ⟨x1, x2⟩ := x
            obtain ⟨hx1, hx2⟩ := HLt.out _ (List.mem_of_getElem? hx)
            have HX := Lib.hid hx
            have hs := fitN_step (b := b) hx
            have he : (bits .and .u64 (b : Int) (x1 : Int) == (x2 : Int)) = decide (b &&& x1 = x2) := and_eq HBB.out hx1
            have hle : fitN b (C.take i) ≤ i := Nat.le_trans List.countP_le_length (by simp; omega)
            obtain ⟨fi, hfi⟩ : ∃ fi, fitN b (C.take i) = fi := ⟨_, rfl⟩
            rw [hfi] at hs hle ⊢
            dsimp only at q0 q1
            clear hx hfi
            have HBn := Lib.hid (HB.out.below ((Below.refl _ _).alloc (Nat.le_refl _) (.cells #[.int .u64 (x1 : Int), .int .u64 (x2 : Int)] 51)))
            have HKn := Lib.hid (HK.out.below ((Below.refl _ _).alloc (Nat.le_refl _) (.cells #[.int .u64 (x1 : Int), .int .u64 (x2 : Int)] 51)))
            by_cases hq : b &&& x1 = x2
            · rw [if_pos hq] at hs
              rw [decide_eq_true hq] at he
              have HS := Lib.hid hs
              clear hs hq
              go_wp2_with fail
              have hi := HI.out
              go_roundg (gk - 1)
              case measure => omega
              case rel => exact ⟨i + 1, by omega, by simp, by rw [HS.out]; simp, HBn.out, HKn.out⟩
            · rw [if_neg hq] at hs
              rw [decide_eq_false hq] at he
              have HS := Lib.hid hs
              clear hs hq
              go_wp2_with fail
              have hi := HI.out
              go_roundg (gk - 1)
              case measure => omega
              case rel => exact ⟨i + 1, by omega, by simp, by rw [HS.out]; simp, HBn.out, HKn.out⟩
          · have hie : i = N := by have := HI.out; omega
            subst hie
            have ht : C.take i = C := List.take_of_length_le (by have := HNe.out; omega)
            rw [ht, HW.out]
            have HV := Lib.hid (fun W => value_any y W)
            obtain ⟨z, hz⟩ : ∃ z, valueP y = z := ⟨_, rfl⟩
            rw [hz] at HV ⊢
            by_cases hv : z = val
            · rw [if_pos hv]
              go_wp2_with (first
                | (go_at_call 26; ((with_reducible refine (lv_walk HB.out HBB.out HY.out).mono ?_); rintro e w3 ⟨rfl, h3⟩); have H3 := Lib.hid h3; clear h3)
                | (go_at_call 25; ((with_reducible refine (HV.out _).mono ?_); rintro e w9 ⟨rfl, rfl⟩))
                | (go_at_call 11; ((with_reducible refine (lv_alive H3.out).mono ?_); rintro e w4 ⟨rfl, h4, -⟩)))
              go_ret
              exact ⟨rfl, h4.low⟩
            · rw [if_neg hv]
              have hv' : (z == val) = false := by simpa using hv
              go_wp2_with (first
                | (go_at_call 26; ((with_reducible refine (lv_walk HB.out HBB.out HY.out).mono ?_); rintro e w3 ⟨rfl, h3⟩); have H3 := Lib.hid h3; clear h3)
                | (go_at_call 25; ((with_reducible refine (HV.out _).mono ?_); rintro e w9 ⟨rfl, rfl⟩))
                | (go_at_call 11; ((with_reducible refine (lv_alive H3.out).mono ?_); rintro e w4 ⟨rfl, h4, -⟩)))
              go_ret
              exact ⟨rfl, h4.low⟩
      · have HH := Lib.hid (show hasP L.length r = false by simpa using hf)
        clear hf
        go_enter Try.func6, Try.ntmps6
        go_wp2_with fail
        go_region
        go_wp2_with (first
          | (go_at_call 9; ((with_reducible refine HF.out.mono ?_); rintro e w1 ⟨p, A', c', rfl, h1⟩); have H1 := Lib.hid (h1.below ((Below.refl _ _).alloc (Nat.le_refl _) (.cells #[.int .i64 60, .slice A' L.length c'] 27))); clear h1)
          | (go_at_call 10; ((with_reducible refine (HQ.out _).mono ?_); rintro e w9 ⟨rfl, rfl⟩))
          | (go_at_call 24; ((with_reducible refine (lv_has H1.out HH.out).mono ?_); rintro e w9 ⟨rfl, rfl⟩))
          | (go_at_call 11; ((with_reducible refine (lv_alive H1.out).mono ?_); rintro e w2 ⟨rfl, h2, -⟩)))
        go_ret
        exact ⟨rfl, h2.low⟩
end Go.Proofs.Ytcolinjgfcjimaa
