/- The walk of CountWeights. -/
import Derived.Test.YtcolinjgfcjimaaCSumsWalk
namespace Go.Proofs.Ytcolinjgfcjimaa
open Go.RowKit
attribute [local go_sem ↓] Go.wp_at_zero Go.wp_at_succ

theorem wtsN_step {i : Nat} {C : List Cb} {c : Cb} (hc : C[i]? = some c) : wtsN (C.take (i + 1)) = wtsN (C.take i) + wt c.1 12 := by
  unfold wtsN
  rw [List.take_add_one, hc, List.map_append, List.sum_append]
  simp
theorem wtsN_take {C : List Cb} (i : Nat) : wtsN (C.take i) ≤ wtsN C := by
  unfold wtsN
  have := congrArg (fun l => (l.map fun c : Cb => wt c.1 12).sum) (List.take_append_drop i C)
  simp only [List.map_append, List.sum_append] at this
  omega
theorem satN_le {L : List Nd} (hR : RightL L) (val : Int) : ∀ r, satN L 12 val r ≤ 4096 := by
  refine down hR (fun r hr => ?_) fun k x hx _ _ h2 h3 => ?_
  · unfold satN
    rw [fold_out hr]
    split <;> omega
  · rw [sat_node hR hx]
    omega
theorem andNot_zero {a b : Nat} (ha : a < 4096) (hb : b < 4096) (h : ∀ j, a.testBit j = true → b.testBit j = true) : bits .andNot .u64 (a : Int) (b : Int) = 0 := by
  have h1 : (BitVec.ofInt 64 (a : Int)).toNat = a := by
    rw [BitVec.ofInt_natCast, BitVec.toNat_ofNat]; exact Nat.mod_eq_of_lt (by omega)
  have h2 : (BitVec.ofInt 64 (b : Int)).toNat = b := by
    rw [BitVec.ofInt_natCast, BitVec.toNat_ofNat]; exact Nat.mod_eq_of_lt (by omega)
  have e : a &&& (2 ^ 64 - 1 - b) = 0 := by
    apply Nat.eq_of_testBit_eq
    intro j
    rw [show 2 ^ 64 - 1 - b = 2 ^ 64 - (b + 1) by omega, Nat.testBit_and, Nat.testBit_two_pow_sub_succ (by omega)]
    cases hj : a.testBit j
    · simp
    · simp [h j hj]
  show IntKind.u64.wrap ((BitVec.ofInt 64 (a : Int) &&& ~~~BitVec.ofInt 64 (b : Int)).toNat : Int) = _
  rw [BitVec.toNat_and, BitVec.toNat_not, h1, h2, e]
  rfl
theorem lv_satP {w W : World} {p : Nat} {L : List Nd} {f val : Int} {C : List Cb} (h : Lv w p L W) (hC : cubesP L val f = C) : Calls Try.prog 14 #[.pointer (some ⟨p, 0, none⟩), .int .i64 f, .int .i64 val, .int .i64 12] W fun e w' => e = .returned (.int .i64 ((wtsN C : Nat) : Int)) ∧ Lv w p L w' := by
  subst hC
  unfold cubesP
  by_cases hf : hasP L.length f = true
  · rw [if_pos hf, wts_sat h.right]
    exact (lv_sat h hf rfl).mono fun _ _ ⟨h1, h2, _⟩ => ⟨h1, h2⟩
  · rw [if_neg hf]
    have ⟨own, h1, h2⟩ := h
    exact (sat_any h1 val 12).mono fun _ _ ⟨y, he, _, g2, hb⟩ => ⟨by rw [he, g2 fun hb => hf hb.2.1]; rfl, h.below hb⟩
set_option maxRecDepth 100000 in
set_option maxHeartbeats 6400000 in
theorem weights_walk (f : Nat → Nd) (A : Option Addr) (m c : Nat) (r val : Int) (w : World) (_ : m ≤ 9223372036854775807) (_ : m ≤ c) (hO : Ops w A m f) (_ : -9223372036854775808 ≤ r ∧ r ≤ 9223372036854775807) (_ : -9223372036854775808 ≤ val ∧ val ≤ 9223372036854775807) :
    Calls Try.prog 8 #[.slice A m c, .int .i64 r, .int .i64 val] w fun e w' => e = .returned (.bool true) ∧ Below w.heap.size w w' := by
  have HB0 := Lib.hid (Below.refl w.heap.size w)
  by_cases hm : 60 < m
  · have HF := Lib.hid (build_no (A := A) (c := c) HB0.out hm)
    have hd : decide (24 < (m : Int)) = true := decide_eq_true (by omega)
    go_enter Try.func8, Try.ntmps8
    go_wp2_with (first
      | (go_at_call 9; ((with_reducible refine HF.out.mono ?_); rintro e w1 ⟨rfl, hb1⟩); have HB1 := Lib.hid (hb1.trans ((Below.refl _ _).alloc hb1.size (.cells #[.int .i64 60, .slice none 0 0] 27))); clear hb1)
      | (go_at_call 11; ((with_reducible refine (alive_in HB1.out).mono ?_); rintro e w2 ⟨rfl, hb2⟩)))
    go_ret
    exact ⟨rfl, hb2⟩
  · have HF := Lib.hid (build_lv (c := c) HB0.out (by omega) hO)
    obtain ⟨L, hL⟩ : ∃ L, scr 60 [] f m = L := ⟨_, rfl⟩
    rw [hL] at HF
    clear hL
    by_cases hq : 24 < m
    · have HQ := Lib.hid (few_is (A := A) (c := c) (decide_eq_false (show ¬ m ≤ 24 by omega)))
      have hd : decide (24 < (m : Int)) = true := decide_eq_true (by omega)
      go_enter Try.func8, Try.ntmps8
      go_wp2_with (first
        | (go_at_call 9; ((with_reducible refine HF.out.mono ?_); rintro e w1 ⟨p, A', c', rfl, h1⟩); have H1 := Lib.hid (h1.below ((Below.refl _ _).alloc (Nat.le_refl _) (.cells #[.int .i64 60, .slice A' L.length c'] 27))); clear h1)
        | (go_at_call 10; ((with_reducible refine (HQ.out _).mono ?_); rintro e w9 ⟨rfl, rfl⟩))
        | (go_at_call 11; ((with_reducible refine (lv_alive H1.out).mono ?_); rintro e w2 ⟨rfl, h2, -⟩)))
      go_ret
      exact ⟨rfl, h2.low⟩
    · have HQ := Lib.hid (few_is (A := A) (c := c) (decide_eq_true (show m ≤ 24 by omega)))
      obtain ⟨C, hC⟩ : ∃ C, cubesP L val r = C := ⟨_, rfl⟩
      have HC := Lib.hid hC
      clear hC
      go_enter Try.func8, Try.ntmps8
      go_wp2_with (first
        | (go_at_call 9; ((with_reducible refine HF.out.mono ?_); rintro e w1 ⟨p, A', c', rfl, h1⟩); have H1 := Lib.hid (h1.below ((Below.refl _ _).alloc (Nat.le_refl _) (.cells #[.int .i64 60, .slice A' L.length c'] 27))); clear h1)
        | (go_at_call 10; ((with_reducible refine (HQ.out _).mono ?_); rintro e w9 ⟨rfl, rfl⟩))
        | (go_at_call 22; ((with_reducible refine (lv_cubes H1.out HC.out).mono ?_); rintro e w2 ⟨Ac, cc, rfl, h2, k2⟩); have H2 := Lib.hid h2; have K2 := Lib.hid k2; clear h2 k2))
      have HN : Hid (C.length ≤ 4096) := Lib.hid (by
        rw [← HC.out]
        unfold cubesP
        split
        · exact Nat.le_trans (cubesOf_len _ _) (ways_few H2.out.right _)
        · simp)
      have HLt : Hid (∀ x ∈ C, (x.1 < 4096 ∧ x.2 < 4096) ∧ ∀ j, x.2.testBit j = true → x.1.testBit j = true) := Lib.hid (fun x hx => by
        rw [← HC.out] at hx
        unfold cubesP at hx
        split at hx
        · unfold cubesL cubesOf at hx
          obtain ⟨z, hz, rfl⟩ := List.mem_map.1 hx
          exact ⟨ways_lt H2.out.right _ z (List.mem_filter.1 hz).1, (ways_from H2.out.right _ z (List.mem_filter.1 hz).1).2⟩
        · simp at hx)
      have HW : Hid (wtsN C ≤ 4096) := Lib.hid (by
        rw [← HC.out]
        unfold cubesP
        split
        · rw [wts_sat H2.out.right]
          exact satN_le H2.out.right _ _
        · exact Nat.zero_le _)
      obtain ⟨N, hN⟩ : ∃ N, C.length = N := ⟨_, rfl⟩
      rw [hN] at HN ⊢
      have HNe := Lib.hid hN
      have hN4 := HN.out
      clear hN
      go_loopg [10, 39] N (fun gk t10 t39 wr => ∃ i : Nat, i + gk = N ∧ t39 = .int .i64 (i : Int) ∧ t10 = .int .i64 ((wtsN (C.take i) : Nat) : Int) ∧ Lv w p L wr ∧ CRow wr Ac C)
      case atStart => exact ⟨0, by omega, rfl, rfl, H2.out, K2.out⟩
      case round =>
        rename Nat => g0
        obtain ⟨i, hi, rfl, rfl, hB, hK⟩ := hrel
        have HB := Lib.hid hB
        have HK := Lib.hid hK
        have HI := Lib.hid hi
        clear hB hK hi
        by_cases him : i < N
        · obtain ⟨x, hx⟩ : ∃ x, C[i]? = some x := ⟨_, List.getElem?_eq_getElem (by have := HNe.out; omega)⟩
          obtain ⟨g, rfl, hg, q0, q1⟩ := HK.out i x hx
          obtain ⟨x1, x2⟩ := x
          obtain ⟨⟨hx1, hx2⟩, hsub⟩ := HLt.out _ (List.mem_of_getElem? hx)
          have hs := wtsN_step hx
          have hle : wtsN (C.take (i + 1)) ≤ 4096 := Nat.le_trans (wtsN_take _) HW.out
          have hz : bits .andNot .u64 (x2 : Int) (x1 : Int) = 0 := andNot_zero hx2 hx1 hsub
          have hd : decide (4095 < (x1 : Int)) = false := decide_eq_false (by dsimp only at hx1; omega)
          obtain ⟨fi, hfi⟩ : ∃ fi, wtsN (C.take i) = fi := ⟨_, rfl⟩
          dsimp only at q0 q1 hs hx1 hx2
          rw [hs, hfi] at hle
          rw [hfi] at hs
          rw [hfi]
          have HS := Lib.hid hs
          clear hx hfi hs hsub
          have hk := Blk.new wr 51 #[.int .u64 (x1 : Int), .int .u64 (x2 : Int)]
          have hbn := (Below.refl wr.heap.size wr).alloc (Nat.le_refl _) (.cells #[.int .u64 (x1 : Int), .int .u64 (x2 : Int)] 51)
          have HBn := Lib.hid (HB.out.below hbn)
          have HKn := Lib.hid (HK.out.below hbn)
          go_wp2_with fail
          obtain ⟨W5, hW5⟩ : ∃ W5, wr.alloc (.cells #[.int .u64 (x1 : Int), .int .u64 (x2 : Int)] 51) = W5 := ⟨_, rfl⟩
          rw [hW5] at hk HBn HKn ⊢
          have z0 : W5.cell? ⟨wr.heap.size, 0, none⟩ = some (.int .u64 (x1 : Int)) := hk.cell 0
          obtain ⟨nb, hnb⟩ : ∃ nb, wr.heap.size = nb := ⟨_, rfl⟩
          rw [hnb] at z0 ⊢
          clear hk hbn hW5 hnb
          go_loopg [13, 54] 12 (fun gq t13 t54 wq => ∃ j : Nat, j + gq = 12 ∧ t54 = .int .i64 (j : Int) ∧ t13 = .int .i64 ((wt x1 j : Nat) : Int) ∧ wq = W5)
          case atStart => exact ⟨0, by omega, rfl, rfl, rfl⟩
          case round =>
            rename Nat => g1
            obtain ⟨j, hj, rfl, rfl, rfl⟩ := hrel
            by_cases hj12 : j < 12
            · have hbit := bit_at x1 j (by omega)
              have hwl := wt_le x1 j
              obtain ⟨q, hq⟩ : ∃ q, wt x1 j = q := ⟨_, rfl⟩
              rw [hq] at hwl ⊢
              cases ht : x1.testBit j
              · rw [ht] at hbit
                have HQ1 : Hid (wt x1 (j + 1) = q) := Lib.hid (by show (if _ then _ else _) = _; rw [if_neg (by rw [ht]; decide), hq])
                clear ht hq
                go_wp2_with fail
                go_roundg (g1 - 1)
                case measure => omega
                case rel => exact ⟨j + 1, by omega, by simp, by rw [HQ1.out], rfl⟩
              · rw [ht] at hbit
                have HQ1 : Hid (wt x1 (j + 1) = q / 2) := Lib.hid (by show (if _ then _ else _) = _; rw [if_pos ht, hq])
                clear ht hq
                go_wp2_with fail
                go_roundg (g1 - 1)
                case measure => omega
                case rel => exact ⟨j + 1, by omega, by simp, by rw [HQ1.out]; simp, rfl⟩
            · have hje : j = 12 := by omega
              subst hje
              obtain ⟨q, hq⟩ : ∃ q, wt x1 12 = q := ⟨_, rfl⟩
              rw [hq] at hle ⊢
              have HQ2 := Lib.hid hq
              clear hq
              go_wp2_with fail
              have hi := HI.out
              go_roundg (g0 - 1)
              case measure => omega
              case rel => exact ⟨i + 1, by omega, by simp, by rw [HS.out, HQ2.out]; simp, HBn.out, HKn.out⟩
        · have hie : i = N := by have := HI.out; omega
          subst hie
          have ht : C.take i = C := List.take_of_length_le (by have := HNe.out; omega)
          rw [ht]
          have hw4 := HW.out
          go_wp2_with (first
            | (go_at_call 11; ((with_reducible refine (lv_alive HB.out).mono ?_); rintro e w4 ⟨rfl, h4, -⟩); have H4 := Lib.hid h4; clear h4)
            | (go_at_call 14; ((with_reducible refine (lv_satP H4.out HC.out).mono ?_); rintro e w5 ⟨rfl, h5⟩)))
          go_ret
          exact ⟨rfl, h5.low⟩
end Go.Proofs.Ytcolinjgfcjimaa
