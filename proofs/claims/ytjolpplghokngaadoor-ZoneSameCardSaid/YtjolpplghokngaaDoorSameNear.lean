/- ZoneSame: both zones have at most 100 bounds. -/
import Derived.Test.YtjolpplghokngaaDoorSameST
import Derived.BigRegion
namespace Go.Proofs.YtjolpplghokngaaDoor
open Go.RowKit
attribute [local go_sem ↓] Go.wp_at_zero Go.wp_at_succ

set_option maxRecDepth 100000 in
set_option maxHeartbeats 6400000 in
/-- The law's walk, up to its last region. -/
theorem same_near {w : World} {Na Nb : Int} {Aa Ab : Option Addr} {la lb ca cb ma mb : Nat} {Ra Rb : Option Mat} (hl : la ≤ 100 ∧ lb ≤ 100)
    (KA : ∀ W, Below w.heap.size w W → Calls Tryd.prog 13 #[zoneV Na Aa la ca, zoneV Na Aa la ca] W (RetC W ma Ra)) (KB : ∀ W, Below w.heap.size w W → Calls Tryd.prog 13 #[zoneV Nb Ab lb cb, zoneV Nb Ab lb cb] W (RetC W mb Rb))
    (HM : Hid (0 < ma ∧ ma ≤ 7 ∧ 0 < mb ∧ mb ≤ 7)) :
    Calls Tryd.prog 7 #[zoneV Na Aa la ca, zoneV Nb Ab lb cb] w (RetB w true) := by
  have HT := Lib.hid (dz_new w (.int .i64 Na) (.slice Aa la ca) (.int .i64 Nb) (.slice Ab lb cb))
  have HE := Lib.hid (And.intro (decide_eq_true hl.1) (decide_eq_true hl.2))
  have HA := Lib.hid KA
  have HB := Lib.hid KB
  clear hl KA KB
  go_enter Tryd.func7, Tryd.ntmps7
  go_wp2_with (first
    | (go_at_call 8; ((with_reducible refine (few_any _ _ Aa la ca).mono ?_); rw [HE.out.1]; rintro e w1 ⟨rfl, hb1⟩); have F1 := HT.out.below hb1; have y0 := F1.2.1.cell0; have y1 := F1.2.1.cell1)
    | (go_at_call 8; ((with_reducible refine (few_any _ _ Ab lb cb).mono ?_); rw [HE.out.2]; rintro e w2 ⟨rfl, hb2⟩); have F2 := F1.below hb2))
  have CUR : Hid (ST w (.int .i64 Na) (.slice Aa la ca) (.int .i64 Nb) (.slice Ab lb cb) ma mb Ra Rb none none none none w2) := Lib.hid ⟨⟨F2.2.2, F2.2.1.lt, F2.1.cell0, F2.1.cell1, F2.2.1.cell0, F2.2.1.cell1⟩, fun _ e => (by cases e), fun _ e => (by cases e), fun _ _ e => (by cases e), fun _ e => (by cases e), fun _ e => by cases e⟩
  have F0 := Lib.hid F2
  have c0 := F2.1.cell0
  have c1 := F2.1.cell1
  have c2 := F2.2.1.cell0
  have c3 := F2.2.1.cell1
  clear F1 F2 y0 y1 hb1 hb2
  go_upto_region 4 with fail
  go_cut [5, 6] (fun s t wx => TwoZ w ma mb Ra Rb s t wx)
  case first =>
    go_region_held3 (fun w' => Below w.heap.size w w' ∧ w.heap.size + 1 < w'.heap.size ∧ w'.cell? ⟨w.heap.size, 0, none⟩ = some (.int .i64 Na) ∧ w'.cell? ⟨w.heap.size, 1, none⟩ = some (.slice Aa la ca) ∧ w'.cell? ⟨w.heap.size + 1, 0, none⟩ = some (.int .i64 Nb) ∧ w'.cell? ⟨w.heap.size + 1, 1, none⟩ = some (.slice Ab lb cb))
      (repeat (first | (with_reducible exact CUR.out.s.conj) | (with_reducible refine kz_drew ?_) | (with_reducible refine kz_alloc _ ?_) | ((with_reducible refine kz_set _ ?_ ?_); (dsimp only); (first | (exact (CUR.out.one _ rfl).2) | (exact (CUR.out.two _ rfl).2) | (exact CUR.out.s.2.1) | (exact Nat.lt_succ_of_lt CUR.out.s.2.1)))))
      (first
        | (go_at_call 12; ((with_reducible refine (of_st CUR.out).mono ?_); rintro e w1 ⟨rfl, hS⟩); have CUR := Lib.hid hS; clear hS)
        | (go_at_call 12; ((with_reducible refine (of_st CUR.out.mk1).mono ?_); rintro e w1 ⟨rfl, hS⟩); have CUR := Lib.hid hS; clear hS)
        | (go_at_call 12; ((with_reducible refine (of_st CUR.out.mk2).mono ?_); rintro e w1 ⟨rfl, hS⟩); have CUR := Lib.hid hS; clear hS)
        | (go_at_call 12; ((with_reducible refine (of_st CUR.out.mk12x).mono ?_); rintro e w1 ⟨rfl, hS⟩); have CUR := Lib.hid hS; clear hS)
        | (go_at_call 12; ((with_reducible refine (of_st CUR.out.dr).mono ?_); rintro e w1 ⟨rfl, hS⟩); have CUR := Lib.hid hS; clear hS)
        | (go_at_call 12; ((with_reducible refine (of_st CUR.out.mk1d).mono ?_); rintro e w1 ⟨rfl, hS⟩); have CUR := Lib.hid hS; clear hS)
        | (go_at_call 12; ((with_reducible refine (of_st CUR.out.mk12x.dr).mono ?_); rintro e w1 ⟨rfl, hS⟩); have CUR := Lib.hid hS; clear hS)
        | (go_at_call 13; ((with_reducible refine (meet3_st HA.out CUR.out).mono ?_); rintro e w1 ⟨A3, c3, rfl, hS⟩); have CUR := Lib.hid hS; clear hS)
        | (go_at_call 13; ((with_reducible refine (meet3_st HA.out CUR.out.mk1).mono ?_); rintro e w1 ⟨A3, c3, rfl, hS⟩); have CUR := Lib.hid hS; clear hS)
        | (go_at_call 13; ((with_reducible refine (meet3_st HA.out CUR.out.mk2).mono ?_); rintro e w1 ⟨A3, c3, rfl, hS⟩); have CUR := Lib.hid hS; clear hS)
        | (go_at_call 13; ((with_reducible refine (meet3_st HA.out CUR.out.mk12x).mono ?_); rintro e w1 ⟨A3, c3, rfl, hS⟩); have CUR := Lib.hid hS; clear hS)
        | (go_at_call 13; ((with_reducible refine (meet3_st HA.out CUR.out.dr).mono ?_); rintro e w1 ⟨A3, c3, rfl, hS⟩); have CUR := Lib.hid hS; clear hS)
        | (go_at_call 13; ((with_reducible refine (meet3_st HA.out CUR.out.mk1d).mono ?_); rintro e w1 ⟨A3, c3, rfl, hS⟩); have CUR := Lib.hid hS; clear hS)
        | (go_at_call 13; ((with_reducible refine (meet3_st HA.out CUR.out.mk12x.dr).mono ?_); rintro e w1 ⟨A3, c3, rfl, hS⟩); have CUR := Lib.hid hS; clear hS)
        | (go_at_call 13; ((with_reducible refine (meet6_st HB.out CUR.out).mono ?_); rintro e w1 ⟨A6, c6, rfl, hS⟩); have CUR := Lib.hid hS; clear hS; (try (obtain ⟨p1, q1, D1⟩ := (CUR.out.one _ rfl).1; have d1 := D1.lt; have d2 := D1.frozen0; have d3 := D1.frozen1; have d4 := D1.cell0; have d5 := D1.cell1; clear D1)); (try (obtain ⟨p2, q2, D2⟩ := (CUR.out.two _ rfl).1; have e1 := D2.lt; have e2 := D2.frozen0; have e3 := D2.frozen1; have e4 := D2.cell0; have e5 := D2.cell1; clear D2)); (try (have ne := CUR.out.ne _ _ rfl rfl)))
        | (go_at_call 13; ((with_reducible refine (meet6_st HB.out CUR.out.mk1).mono ?_); rintro e w1 ⟨A6, c6, rfl, hS⟩); have CUR := Lib.hid hS; clear hS; (try (obtain ⟨p1, q1, D1⟩ := (CUR.out.one _ rfl).1; have d1 := D1.lt; have d2 := D1.frozen0; have d3 := D1.frozen1; have d4 := D1.cell0; have d5 := D1.cell1; clear D1)); (try (obtain ⟨p2, q2, D2⟩ := (CUR.out.two _ rfl).1; have e1 := D2.lt; have e2 := D2.frozen0; have e3 := D2.frozen1; have e4 := D2.cell0; have e5 := D2.cell1; clear D2)); (try (have ne := CUR.out.ne _ _ rfl rfl)))
        | (go_at_call 13; ((with_reducible refine (meet6_st HB.out CUR.out.mk2).mono ?_); rintro e w1 ⟨A6, c6, rfl, hS⟩); have CUR := Lib.hid hS; clear hS; (try (obtain ⟨p1, q1, D1⟩ := (CUR.out.one _ rfl).1; have d1 := D1.lt; have d2 := D1.frozen0; have d3 := D1.frozen1; have d4 := D1.cell0; have d5 := D1.cell1; clear D1)); (try (obtain ⟨p2, q2, D2⟩ := (CUR.out.two _ rfl).1; have e1 := D2.lt; have e2 := D2.frozen0; have e3 := D2.frozen1; have e4 := D2.cell0; have e5 := D2.cell1; clear D2)); (try (have ne := CUR.out.ne _ _ rfl rfl)))
        | (go_at_call 13; ((with_reducible refine (meet6_st HB.out CUR.out.mk12x).mono ?_); rintro e w1 ⟨A6, c6, rfl, hS⟩); have CUR := Lib.hid hS; clear hS; (try (obtain ⟨p1, q1, D1⟩ := (CUR.out.one _ rfl).1; have d1 := D1.lt; have d2 := D1.frozen0; have d3 := D1.frozen1; have d4 := D1.cell0; have d5 := D1.cell1; clear D1)); (try (obtain ⟨p2, q2, D2⟩ := (CUR.out.two _ rfl).1; have e1 := D2.lt; have e2 := D2.frozen0; have e3 := D2.frozen1; have e4 := D2.cell0; have e5 := D2.cell1; clear D2)); (try (have ne := CUR.out.ne _ _ rfl rfl)))
        | (go_at_call 13; ((with_reducible refine (meet6_st HB.out CUR.out.dr).mono ?_); rintro e w1 ⟨A6, c6, rfl, hS⟩); have CUR := Lib.hid hS; clear hS; (try (obtain ⟨p1, q1, D1⟩ := (CUR.out.one _ rfl).1; have d1 := D1.lt; have d2 := D1.frozen0; have d3 := D1.frozen1; have d4 := D1.cell0; have d5 := D1.cell1; clear D1)); (try (obtain ⟨p2, q2, D2⟩ := (CUR.out.two _ rfl).1; have e1 := D2.lt; have e2 := D2.frozen0; have e3 := D2.frozen1; have e4 := D2.cell0; have e5 := D2.cell1; clear D2)); (try (have ne := CUR.out.ne _ _ rfl rfl)))
        | (go_at_call 13; ((with_reducible refine (meet6_st HB.out CUR.out.mk1d).mono ?_); rintro e w1 ⟨A6, c6, rfl, hS⟩); have CUR := Lib.hid hS; clear hS; (try (obtain ⟨p1, q1, D1⟩ := (CUR.out.one _ rfl).1; have d1 := D1.lt; have d2 := D1.frozen0; have d3 := D1.frozen1; have d4 := D1.cell0; have d5 := D1.cell1; clear D1)); (try (obtain ⟨p2, q2, D2⟩ := (CUR.out.two _ rfl).1; have e1 := D2.lt; have e2 := D2.frozen0; have e3 := D2.frozen1; have e4 := D2.cell0; have e5 := D2.cell1; clear D2)); (try (have ne := CUR.out.ne _ _ rfl rfl)))
        | (go_at_call 13; ((with_reducible refine (meet6_st HB.out CUR.out.mk12x.dr).mono ?_); rintro e w1 ⟨A6, c6, rfl, hS⟩); have CUR := Lib.hid hS; clear hS; (try (obtain ⟨p1, q1, D1⟩ := (CUR.out.one _ rfl).1; have d1 := D1.lt; have d2 := D1.frozen0; have d3 := D1.frozen1; have d4 := D1.cell0; have d5 := D1.cell1; clear D1)); (try (obtain ⟨p2, q2, D2⟩ := (CUR.out.two _ rfl).1; have e1 := D2.lt; have e2 := D2.frozen0; have e3 := D2.frozen1; have e4 := D2.cell0; have e5 := D2.cell1; clear D2)); (try (have ne := CUR.out.ne _ _ rfl rfl))))
    all_goals go_wp2_with fail
    all_goals go_meet
    all_goals (first | (with_reducible exact st_end CUR.out) | (with_reducible exact st_end2 CUR.out) | (with_reducible exact st_end3 CUR.out) | (with_reducible exact st_end4 CUR.out) | (with_reducible exact st_end5 CUR.out) | (with_reducible exact st_end6 CUR.out) | (with_reducible exact (st_end CUR.out).dr) | (with_reducible exact (st_end2 CUR.out).dr) | (with_reducible exact (st_end3 CUR.out).dr) | (with_reducible exact (st_end4 CUR.out).dr) | (with_reducible exact (st_end5 CUR.out).dr) | (with_reducible exact (st_end6 CUR.out).dr))
  case rest =>
    obtain ⟨g, h, ba, bb, A, B, c, d, rfl, rfl, hT⟩ := hcut
    have L0 := Lib.hid hT.drew
    have K0 := Lib.hid L0.out.cells
    clear hT F0 CUR c0 c1 c2 c3
    go_wp2_with fail
    have hsl := same_leq ma mb Ra Rb
    by_cases hm : ma = mb
    · have e35 : ((ma : Int) - 1 == (mb : Int) - 1) = true := by rw [same_n]; exact decide_eq_true hm
      rw [decide_eq_true hm] at hsl
      cases hq : leqO ma mb Ra Rb
      · rw [hq] at hsl
        have SM := Lib.hid (show sameO ma mb Ra Rb = false from hsl)
        have LQ := Lib.hid hq
        clear hm hsl hq
        refine wp_region_held_drew (S := fun w' => w'.cell? ⟨g, 0, none⟩ = some (.int .i64 ((ma : Int) - 1)) ∧ w'.cell? ⟨g, 1, none⟩ = some (.slice A (rlen ma Ra) c) ∧ w'.cell? ⟨h, 0, none⟩ = some (.int .i64 ((mb : Int) - 1)) ∧ w'.cell? ⟨h, 1, none⟩ = some (.slice B (rlen mb Rb) d)) (by kernel_rfl) (L0.out.cells) (fun hH0 => ?_)
        refine wpAnyH_ready (rs := [0]) (by kernel_rfl) (by simp) ?_
        refine AllReadyH.cons (o := ⟨some 26, _, _, _, _, _⟩) rfl (fun K hK => ?_) AllReadyH.nil
        go_simp
        refine (alive_any _).mono ?_
        rintro e x1 ⟨rfl, hx1⟩
        have L1 := Lib.hid (L0.out.below hx1)
        go_wp2_with fail
        refine hK.out _ _ (L1.out.cells) (fun hH1 => ?_)
        clear hK K hH0 hx1
        try simp only [Act.put, List.setIfInBounds_toArray, List.set_cons_zero, List.set_cons_succ]
        refine wpAnyH_take (i := 1) (oi := ⟨some 27, _, _, _, _, _⟩) (v := ?_) rfl (by kernel_rfl) (by kernel_rfl) (by kernel_rfl) (fun _ _ _ h => h) (Or.inl ⟨by rfl, ?_⟩) hH1 ?_
        rotate_left
        · intro w hSw
          try dsimp only at hSw
          go_simp
          try with_reducible rfl
        try simp only [Act.put, List.setIfInBounds_toArray, List.set_cons_zero, List.set_cons_succ]
        refine wpAnyH_take (i := 2) (oi := ⟨some 28, _, _, _, _, _⟩) (v := ?_) rfl (by kernel_rfl) (by kernel_rfl) (by kernel_rfl) (fun _ _ _ h => h) (Or.inl ⟨by rfl, ?_⟩) hH1 ?_
        rotate_left
        · intro w hSw
          try dsimp only at hSw
          go_simp
          try with_reducible rfl
        try simp only [Act.put, List.setIfInBounds_toArray, List.set_cons_zero, List.set_cons_succ]
        refine wpAnyH_take (i := 3) (oi := ⟨some 29, _, _, _, _, _⟩) (v := ?_) rfl (by kernel_rfl) (by kernel_rfl) (by kernel_rfl) (fun _ _ _ h => h) (Or.inl ⟨by rfl, ?_⟩) hH1 ?_
        rotate_left
        · intro w hSw
          try dsimp only at hSw
          go_simp
          try with_reducible rfl
        try simp only [Act.put, List.setIfInBounds_toArray, List.set_cons_zero, List.set_cons_succ]
        refine wpAnyH_take (i := 5) (oi := ⟨some 31, _, _, _, _, _⟩) (v := ?_) rfl (by kernel_rfl) (by kernel_rfl) (by kernel_rfl) (fun _ _ _ h => h) (Or.inl ⟨by rfl, ?_⟩) hH1 ?_
        rotate_left
        · intro w hSw
          try dsimp only at hSw
          go_simp
          try with_reducible rfl
        try simp only [Act.put, List.setIfInBounds_toArray, List.set_cons_zero, List.set_cons_succ]
        refine wpAnyH_take (i := 6) (oi := ⟨some 32, _, _, _, _, _⟩) (v := ?_) rfl (by kernel_rfl) (by kernel_rfl) (by kernel_rfl) (fun _ _ _ h => h) (Or.inl ⟨by rfl, ?_⟩) hH1 ?_
        rotate_left
        · intro w hSw
          try dsimp only at hSw
          go_simp
          try with_reducible rfl
        try simp only [Act.put, List.setIfInBounds_toArray, List.set_cons_zero, List.set_cons_succ]
        refine wpAnyH_take (i := 7) (oi := ⟨some 33, _, _, _, _, _⟩) (v := ?_) rfl (by kernel_rfl) (by kernel_rfl) (by kernel_rfl) (fun _ _ _ h => h) (Or.inl ⟨by rfl, ?_⟩) hH1 ?_
        rotate_left
        · intro w hSw
          try dsimp only at hSw
          go_simp
          try with_reducible rfl
        try simp only [Act.put, List.setIfInBounds_toArray, List.set_cons_zero, List.set_cons_succ]
        refine wpAnyH_take (i := 8) (oi := ⟨some 34, _, _, _, _, _⟩) (v := ?_) rfl (by kernel_rfl) (by kernel_rfl) (by kernel_rfl) (fun _ _ _ h => h) (Or.inl ⟨by rfl, ?_⟩) hH1 ?_
        rotate_left
        · intro w hSw
          try dsimp only at hSw
          go_simp
          try with_reducible rfl
        try simp only [Act.put, List.setIfInBounds_toArray, List.set_cons_zero, List.set_cons_succ]
        refine wpAnyH_take (i := 9) (oi := ⟨some 35, _, _, _, _, _⟩) (v := ?_) rfl (by kernel_rfl) (by kernel_rfl) (by kernel_rfl) (fun _ _ _ h => h) (Or.inl ⟨by rfl, ?_⟩) hH1 ?_
        rotate_left
        · intro w hSw
          try dsimp only at hSw
          go_simp
          try with_reducible rfl
        try simp only [Act.put, List.setIfInBounds_toArray, List.set_cons_zero, List.set_cons_succ]
        refine wpAnyH_ready (rs := [4]) (by kernel_rfl) (by simp) ?_
        refine AllReadyH.cons (o := ⟨some 30, _, _, _, _, _⟩) rfl (fun K hK => ?_) AllReadyH.nil
        go_simp
        refine (p_same HM.out.1 HM.out.2.1 HM.out.2.2.1 HM.out.2.2.2 L1.out SM.out).mono ?_
        rintro e x2 ⟨rfl, hx2⟩
        have L2 := Lib.hid (L1.out.below hx2)
        go_wp2_with fail
        refine hK.out _ _ (L2.out.cells) (fun hH2 => ?_)
        clear hK K hH1 hx2
        try simp only [Act.put, List.setIfInBounds_toArray, List.set_cons_zero, List.set_cons_succ]
        refine wpAnyH_take (i := 10) (oi := ⟨some 36, _, _, _, _, _⟩) (v := ?_) rfl (by kernel_rfl) (by kernel_rfl) (by kernel_rfl) (fun _ _ _ h => h) (Or.inl ⟨by rfl, ?_⟩) hH2 ?_
        rotate_left
        · intro w hSw
          try dsimp only at hSw
          go_simp
          try with_reducible rfl
        try simp only [Act.put, List.setIfInBounds_toArray, List.set_cons_zero, List.set_cons_succ]
        refine wpAnyH_take (i := 11) (oi := ⟨some 37, _, _, _, _, _⟩) (v := ?_) rfl (by kernel_rfl) (by kernel_rfl) (by kernel_rfl) (fun _ _ _ h => h) (Or.inl ⟨by rfl, ?_⟩) hH2 ?_
        rotate_left
        · intro w hSw
          try dsimp only at hSw
          go_simp
          try with_reducible rfl
        try simp only [Act.put, List.setIfInBounds_toArray, List.set_cons_zero, List.set_cons_succ]
        refine wpAnyH_take (i := 12) (oi := ⟨some 38, _, _, _, _, _⟩) (v := ?_) rfl (by kernel_rfl) (by kernel_rfl) (by kernel_rfl) (fun _ _ _ h => h) (Or.inl ⟨by rfl, ?_⟩) hH2 ?_
        rotate_left
        · intro w hSw
          try dsimp only at hSw
          go_simp
          try with_reducible rfl
        try simp only [Act.put, List.setIfInBounds_toArray, List.set_cons_zero, List.set_cons_succ]
        refine wpAnyH_ready (rs := [13]) (by kernel_rfl) (by simp) ?_
        refine AllReadyH.cons (o := ⟨some 39, _, _, _, _, _⟩) rfl (fun K hK => ?_) AllReadyH.nil
        go_simp
        refine (p_leq HM.out.1 HM.out.2.1 HM.out.2.2.1 HM.out.2.2.2 L2.out LQ.out).mono ?_
        rintro e x3 ⟨rfl, hx3⟩
        have L3 := Lib.hid (L2.out.below hx3)
        go_wp2_with fail
        refine hK.out _ _ (L3.out.cells) (fun hH3 => ?_)
        clear hK K hH2 hx3
        try simp only [Act.put, List.setIfInBounds_toArray, List.set_cons_zero, List.set_cons_succ]
        refine wpAnyH_take (i := 14) (oi := ⟨some 40, _, _, _, _, _⟩) (v := ?_) rfl (by kernel_rfl) (by kernel_rfl) (by kernel_rfl) (fun _ _ _ h => h) (Or.inl ⟨by rfl, ?_⟩) hH3 ?_
        rotate_left
        · intro w hSw
          try dsimp only at hSw
          go_simp
          try with_reducible rfl
        try simp only [Act.put, List.setIfInBounds_toArray, List.set_cons_zero, List.set_cons_succ]
        refine wpAnyH_take (i := 15) (oi := ⟨some 41, _, _, _, _, _⟩) (v := ?_) rfl (by kernel_rfl) (by kernel_rfl) (by kernel_rfl) (fun _ _ _ h => h) (Or.inl ⟨by rfl, ?_⟩) hH3 ?_
        rotate_left
        · intro w hSw
          try dsimp only at hSw
          go_simp
          try with_reducible rfl
        try simp only [Act.put, List.setIfInBounds_toArray, List.set_cons_zero, List.set_cons_succ]
        refine wpAnyH_take (i := 16) (oi := ⟨some 42, _, _, _, _, _⟩) (v := undef) rfl (by kernel_rfl) (by kernel_rfl) (by kernel_rfl) (fun _ _ _ h => h) (Or.inr ⟨by rfl, rfl⟩) hH3 ?_
        try simp only [Act.put, List.setIfInBounds_toArray, List.set_cons_zero, List.set_cons_succ]
        refine wpAnyH_take (i := 17) (oi := ⟨some 43, _, _, _, _, _⟩) (v := undef) rfl (by kernel_rfl) (by kernel_rfl) (by kernel_rfl) (fun _ _ _ h => h) (Or.inr ⟨by rfl, rfl⟩) hH3 ?_
        try simp only [Act.put, List.setIfInBounds_toArray, List.set_cons_zero, List.set_cons_succ]
        refine wpAnyH_take (i := 18) (oi := ⟨some 44, _, _, _, _, _⟩) (v := undef) rfl (by kernel_rfl) (by kernel_rfl) (by kernel_rfl) (fun _ _ _ h => h) (Or.inr ⟨by rfl, rfl⟩) hH3 ?_
        try simp only [Act.put, List.setIfInBounds_toArray, List.set_cons_zero, List.set_cons_succ]
        refine wpAnyH_take (i := 19) (oi := ⟨some 45, _, _, _, _, _⟩) (v := ?_) rfl (by kernel_rfl) (by kernel_rfl) (by kernel_rfl) (fun _ _ _ h => h) (Or.inl ⟨by rfl, ?_⟩) hH3 ?_
        rotate_left
        · intro w hSw
          try dsimp only at hSw
          go_simp
          try with_reducible rfl
        try simp only [Act.put, List.setIfInBounds_toArray, List.set_cons_zero, List.set_cons_succ]
        refine wpAnyH_take (i := 20) (oi := ⟨some 46, _, _, _, _, _⟩) (v := ?_) rfl (by kernel_rfl) (by kernel_rfl) (by kernel_rfl) (fun _ _ _ h => h) (Or.inl ⟨by rfl, ?_⟩) hH3 ?_
        rotate_left
        · intro w hSw
          try dsimp only at hSw
          go_simp
          try with_reducible rfl
        try simp only [Act.put, List.setIfInBounds_toArray, List.set_cons_zero, List.set_cons_succ]
        refine wpAnyH_take (i := 21) (oi := ⟨some 47, _, _, _, _, _⟩) (v := ?_) rfl (by kernel_rfl) (by kernel_rfl) (by kernel_rfl) (fun _ _ _ h => h) (Or.inl ⟨by rfl, ?_⟩) hH3 ?_
        rotate_left
        · intro w hSw
          try dsimp only at hSw
          go_simp
          try with_reducible rfl
        try simp only [Act.put, List.setIfInBounds_toArray, List.set_cons_zero, List.set_cons_succ]
        refine wpAnyH_take (i := 22) (oi := ⟨some 48, _, _, _, _, _⟩) (v := ?_) rfl (by kernel_rfl) (by kernel_rfl) (by kernel_rfl) (fun _ _ _ h => h) (Or.inl ⟨by rfl, ?_⟩) hH3 ?_
        rotate_left
        · intro w hSw
          try dsimp only at hSw
          go_simp
          try with_reducible rfl
        try simp only [Act.put, List.setIfInBounds_toArray, List.set_cons_zero, List.set_cons_succ]
        refine wpAnyH_take (i := 23) (oi := ⟨some 49, _, _, _, _, _⟩) (v := ?_) rfl (by kernel_rfl) (by kernel_rfl) (by kernel_rfl) (fun _ _ _ h => h) (Or.inl ⟨by rfl, ?_⟩) hH3 ?_
        rotate_left
        · intro w hSw
          try dsimp only at hSw
          go_simp
          try with_reducible rfl
        try simp only [Act.put, List.setIfInBounds_toArray, List.set_cons_zero, List.set_cons_succ]
        refine wpAnyH_take (i := 24) (oi := ⟨some 50, _, _, _, _, _⟩) (v := ?_) rfl (by kernel_rfl) (by kernel_rfl) (by kernel_rfl) (fun _ _ _ h => h) (Or.inl ⟨by rfl, ?_⟩) hH3 ?_
        rotate_left
        · intro w hSw
          try dsimp only at hSw
          go_simp
          try with_reducible rfl
        try simp only [Act.put, List.setIfInBounds_toArray, List.set_cons_zero, List.set_cons_succ]
        refine wpAnyH_take (i := 26) (oi := ⟨some 52, _, _, _, _, _⟩) (v := ?_) rfl (by kernel_rfl) (by kernel_rfl) (by kernel_rfl) (fun _ _ _ h => h) (Or.inl ⟨by rfl, ?_⟩) hH3 ?_
        rotate_left
        · intro w hSw
          try dsimp only at hSw
          go_simp
          try with_reducible rfl
        try simp only [Act.put, List.setIfInBounds_toArray, List.set_cons_zero, List.set_cons_succ]
        refine wpAnyH_take (i := 27) (oi := ⟨some 53, _, _, _, _, _⟩) (v := ?_) rfl (by kernel_rfl) (by kernel_rfl) (by kernel_rfl) (fun _ _ _ h => h) (Or.inl ⟨by rfl, ?_⟩) hH3 ?_
        rotate_left
        · intro w hSw
          try dsimp only at hSw
          go_simp
          try with_reducible rfl
        try simp only [Act.put, List.setIfInBounds_toArray, List.set_cons_zero, List.set_cons_succ]
        refine wpAnyH_ready (rs := [25]) (by kernel_rfl) (by simp) ?_
        refine AllReadyH.cons (o := ⟨some 51, _, _, _, _, _⟩) rfl (fun K hK => ?_) AllReadyH.nil
        go_simp
        refine (p_join HM.out.1 HM.out.2.1 HM.out.2.2.1 HM.out.2.2.2 L3.out).mono ?_
        rintro e x4 ⟨A5, c5, rfl, hz5, hx4⟩
        have L4 := Lib.hid (L3.out.below hx4)
        have Z5 := Lib.hid hz5
        go_wp2_with fail
        refine hK.out _ _ (L4.out.cells) (fun hH4 => ?_)
        clear hK K hH3 hx4
        try simp only [Act.put, List.setIfInBounds_toArray, List.set_cons_zero, List.set_cons_succ]
        refine wpAnyH_ready (rs := [28]) (by kernel_rfl) (by simp) ?_
        refine AllReadyH.cons (o := ⟨some 54, _, _, _, _, _⟩) rfl (fun K hK => ?_) AllReadyH.nil
        go_simp
        refine (p_join2 HM.out.1 HM.out.2.1 HM.out.2.2.1 HM.out.2.2.2 L4.out).mono ?_
        rintro e x5 ⟨A6, c6, rfl, hz6, hx5⟩
        have L5 := Lib.hid (L4.out.below hx5)
        have Z6 := Lib.hid hz6; have Z5 := Lib.hid (Z5.out.below hx5)
        go_wp2_with fail
        refine hK.out _ _ (L5.out.cells) (fun hH5 => ?_)
        clear hK K hH4 hx5
        try simp only [Act.put, List.setIfInBounds_toArray, List.set_cons_zero, List.set_cons_succ]
        refine wpAnyH_ready (rs := [29]) (by kernel_rfl) (by simp) ?_
        refine AllReadyH.cons (o := ⟨some 55, _, _, _, _, _⟩) rfl (fun K hK => ?_) AllReadyH.nil
        go_simp
        refine (p_same2 (meM_bd HM.out.1 HM.out.2.1).1 (meM_bd HM.out.1 HM.out.2.1).2 Z5.out Z6.out).mono ?_
        rintro e x6 ⟨rfl, hx6⟩
        have L6 := Lib.hid (L5.out.below hx6)
        go_wp2_with fail
        refine hK.out _ _ (L6.out.cells) (fun hH6 => ?_)
        clear hK K hH5 hx6
        try simp only [Act.put, List.setIfInBounds_toArray, List.set_cons_zero, List.set_cons_succ]
        refine wpAnyH_take (i := 30) (oi := ⟨some 56, _, _, _, _, _⟩) (v := ?_) rfl (by kernel_rfl) (by kernel_rfl) (by kernel_rfl) (fun _ _ _ h => h) (Or.inl ⟨by rfl, ?_⟩) hH6 ?_
        rotate_left
        · intro w hSw
          try dsimp only at hSw
          go_simp
          try with_reducible rfl
        try simp only [Act.put, List.setIfInBounds_toArray, List.set_cons_zero, List.set_cons_succ]
        refine wpAnyH_take (i := 31) (oi := ⟨some 4, _, _, _, _, _⟩) (v := ?_) rfl (by kernel_rfl) (by kernel_rfl) (by kernel_rfl) (fun _ _ _ h => h) (Or.inl ⟨by rfl, ?_⟩) hH6 ?_
        rotate_left
        · intro w hSw
          try dsimp only at hSw
          go_simp
          try with_reducible rfl
        try simp only [Act.put, List.setIfInBounds_toArray, List.set_cons_zero, List.set_cons_succ]
        refine wpAnyH_done (by kernel_rfl) ?_ _
        have HB := Lib.hid L6.out.2.2.2.2
        clear hH6
        go_wp2_with fail
        go_ret
        exact ⟨rfl, HB.out⟩
      · cases hr : leqO mb ma Rb Ra
        · rw [hq, hr] at hsl
          have SM := Lib.hid (show sameO ma mb Ra Rb = false from hsl)
          have LQ := Lib.hid hq
          have LR := Lib.hid hr
          clear hm hsl hq hr
          go_region_held3 (fun w' => w'.cell? ⟨g, 0, none⟩ = some (.int .i64 ((ma : Int) - 1)) ∧ w'.cell? ⟨g, 1, none⟩ = some (.slice A (rlen ma Ra) c) ∧ w'.cell? ⟨h, 0, none⟩ = some (.int .i64 ((mb : Int) - 1)) ∧ w'.cell? ⟨h, 1, none⟩ = some (.slice B (rlen mb Rb) d))
            (first | (with_reducible exact K0.out) | (with_reducible exact K1.out) | (with_reducible exact K2.out) | (with_reducible exact K3.out) | (with_reducible exact K4.out) | (with_reducible exact K5.out) | (with_reducible exact K6.out) | (with_reducible exact K7.out))
            (first
            | (go_at_call 9; ((with_reducible refine (alive_any _).mono ?_); rintro e x1 ⟨rfl, hx1⟩); have L1 := Lib.hid (L0.out.below hx1); have K1 := Lib.hid L1.out.cells)
            | (go_at_call 29; ((with_reducible refine (p_same HM.out.1 HM.out.2.1 HM.out.2.2.1 HM.out.2.2.2 L1.out SM.out).mono ?_); rintro e x2 ⟨rfl, hx2⟩); have L2 := Lib.hid (L1.out.below hx2); have K2 := Lib.hid L2.out.cells)
            | (go_at_call 14; ((with_reducible refine (p_leq HM.out.1 HM.out.2.1 HM.out.2.2.1 HM.out.2.2.2 L2.out LQ.out).mono ?_); rintro e x3 ⟨rfl, hx3⟩); have L3 := Lib.hid (L2.out.below hx3); have K3 := Lib.hid L3.out.cells)
            | (go_at_call 14; ((with_reducible refine (p_leq2 HM.out.1 HM.out.2.1 HM.out.2.2.1 HM.out.2.2.2 L3.out LR.out).mono ?_); rintro e x4 ⟨rfl, hx4⟩); have L4 := Lib.hid (L3.out.below hx4); have K4 := Lib.hid L4.out.cells)
            | (go_at_call 11; ((with_reducible refine (p_join HM.out.1 HM.out.2.1 HM.out.2.2.1 HM.out.2.2.2 L4.out).mono ?_); rintro e x5 ⟨A5, c5, rfl, hz5, hx5⟩); have L5 := Lib.hid (L4.out.below hx5); have K5 := Lib.hid L5.out.cells; have Z5 := Lib.hid hz5)
            | (go_at_call 11; ((with_reducible refine (p_join2 HM.out.1 HM.out.2.1 HM.out.2.2.1 HM.out.2.2.2 L5.out).mono ?_); rintro e x6 ⟨A6, c6, rfl, hz6, hx6⟩); have L6 := Lib.hid (L5.out.below hx6); have K6 := Lib.hid L6.out.cells; have Z5x := Lib.hid (Z5.out.below hx6); have Z6 := Lib.hid hz6)
            | (go_at_call 29; ((with_reducible refine (p_same2 (meM_bd HM.out.1 HM.out.2.1).1 (meM_bd HM.out.1 HM.out.2.1).2 Z5x.out Z6.out).mono ?_); rintro e x7 ⟨rfl, hx7⟩); have L7 := Lib.hid (L6.out.below hx7); have K7 := Lib.hid L7.out.cells))
          all_goals go_wp2_with fail
          all_goals go_ret
          all_goals exact ⟨rfl, L7.out.2.2.2.2⟩
        · rw [hq, hr] at hsl
          have SM := Lib.hid (show sameO ma mb Ra Rb = true from hsl)
          have LQ := Lib.hid hq
          have LR := Lib.hid hr
          clear hm hsl hq hr
          go_region_held3 (fun w' => w'.cell? ⟨g, 0, none⟩ = some (.int .i64 ((ma : Int) - 1)) ∧ w'.cell? ⟨g, 1, none⟩ = some (.slice A (rlen ma Ra) c) ∧ w'.cell? ⟨h, 0, none⟩ = some (.int .i64 ((mb : Int) - 1)) ∧ w'.cell? ⟨h, 1, none⟩ = some (.slice B (rlen mb Rb) d))
            (first | (with_reducible exact K0.out) | (with_reducible exact K1.out) | (with_reducible exact K2.out) | (with_reducible exact K3.out) | (with_reducible exact K4.out) | (with_reducible exact K5.out) | (with_reducible exact K6.out) | (with_reducible exact K7.out))
            (first
            | (go_at_call 9; ((with_reducible refine (alive_any _).mono ?_); rintro e x1 ⟨rfl, hx1⟩); have L1 := Lib.hid (L0.out.below hx1); have K1 := Lib.hid L1.out.cells)
            | (go_at_call 29; ((with_reducible refine (p_same HM.out.1 HM.out.2.1 HM.out.2.2.1 HM.out.2.2.2 L1.out SM.out).mono ?_); rintro e x2 ⟨rfl, hx2⟩); have L2 := Lib.hid (L1.out.below hx2); have K2 := Lib.hid L2.out.cells)
            | (go_at_call 14; ((with_reducible refine (p_leq HM.out.1 HM.out.2.1 HM.out.2.2.1 HM.out.2.2.2 L2.out LQ.out).mono ?_); rintro e x3 ⟨rfl, hx3⟩); have L3 := Lib.hid (L2.out.below hx3); have K3 := Lib.hid L3.out.cells)
            | (go_at_call 14; ((with_reducible refine (p_leq2 HM.out.1 HM.out.2.1 HM.out.2.2.1 HM.out.2.2.2 L3.out LR.out).mono ?_); rintro e x4 ⟨rfl, hx4⟩); have L4 := Lib.hid (L3.out.below hx4); have K4 := Lib.hid L4.out.cells)
            | (go_at_call 11; ((with_reducible refine (p_join HM.out.1 HM.out.2.1 HM.out.2.2.1 HM.out.2.2.2 L4.out).mono ?_); rintro e x5 ⟨A5, c5, rfl, hz5, hx5⟩); have L5 := Lib.hid (L4.out.below hx5); have K5 := Lib.hid L5.out.cells; have Z5 := Lib.hid hz5)
            | (go_at_call 11; ((with_reducible refine (p_join2 HM.out.1 HM.out.2.1 HM.out.2.2.1 HM.out.2.2.2 L5.out).mono ?_); rintro e x6 ⟨A6, c6, rfl, hz6, hx6⟩); have L6 := Lib.hid (L5.out.below hx6); have K6 := Lib.hid L6.out.cells; have Z5x := Lib.hid (Z5.out.below hx6); have Z6 := Lib.hid hz6)
            | (go_at_call 29; ((with_reducible refine (p_same2 (meM_bd HM.out.1 HM.out.2.1).1 (meM_bd HM.out.1 HM.out.2.1).2 Z5x.out Z6.out).mono ?_); rintro e x7 ⟨rfl, hx7⟩); have L7 := Lib.hid (L6.out.below hx7); have K7 := Lib.hid L7.out.cells))
          all_goals go_wp2_with fail
          all_goals go_ret
          all_goals exact ⟨rfl, L7.out.2.2.2.2⟩
    · have e35 : ((ma : Int) - 1 == (mb : Int) - 1) = false := by rw [same_n]; exact decide_eq_false hm
      rw [decide_eq_false hm] at hsl
      have SM := Lib.hid (show sameO ma mb Ra Rb = false from hsl)
      clear hm hsl
      refine wp_region_held_drew (S := fun w' => w'.cell? ⟨g, 0, none⟩ = some (.int .i64 ((ma : Int) - 1)) ∧ w'.cell? ⟨g, 1, none⟩ = some (.slice A (rlen ma Ra) c) ∧ w'.cell? ⟨h, 0, none⟩ = some (.int .i64 ((mb : Int) - 1)) ∧ w'.cell? ⟨h, 1, none⟩ = some (.slice B (rlen mb Rb) d)) (by kernel_rfl) (L0.out.cells) (fun hH0 => ?_)
      refine wpAnyH_ready (rs := [0]) (by kernel_rfl) (by simp) ?_
      refine AllReadyH.cons (o := ⟨some 26, _, _, _, _, _⟩) rfl (fun K hK => ?_) AllReadyH.nil
      go_simp
      refine (alive_any _).mono ?_
      rintro e x1 ⟨rfl, hx1⟩
      have L1 := Lib.hid (L0.out.below hx1)
      go_wp2_with fail
      refine hK.out _ _ (L1.out.cells) (fun hH1 => ?_)
      clear hK K hH0 hx1
      try simp only [Act.put, List.setIfInBounds_toArray, List.set_cons_zero, List.set_cons_succ]
      refine wpAnyH_take (i := 1) (oi := ⟨some 27, _, _, _, _, _⟩) (v := ?_) rfl (by kernel_rfl) (by kernel_rfl) (by kernel_rfl) (fun _ _ _ h => h) (Or.inl ⟨by rfl, ?_⟩) hH1 ?_
      rotate_left
      · intro w hSw
        try dsimp only at hSw
        go_simp
        try with_reducible rfl
      try simp only [Act.put, List.setIfInBounds_toArray, List.set_cons_zero, List.set_cons_succ]
      refine wpAnyH_take (i := 2) (oi := ⟨some 28, _, _, _, _, _⟩) (v := ?_) rfl (by kernel_rfl) (by kernel_rfl) (by kernel_rfl) (fun _ _ _ h => h) (Or.inl ⟨by rfl, ?_⟩) hH1 ?_
      rotate_left
      · intro w hSw
        try dsimp only at hSw
        go_simp
        try with_reducible rfl
      try simp only [Act.put, List.setIfInBounds_toArray, List.set_cons_zero, List.set_cons_succ]
      refine wpAnyH_take (i := 3) (oi := ⟨some 29, _, _, _, _, _⟩) (v := ?_) rfl (by kernel_rfl) (by kernel_rfl) (by kernel_rfl) (fun _ _ _ h => h) (Or.inl ⟨by rfl, ?_⟩) hH1 ?_
      rotate_left
      · intro w hSw
        try dsimp only at hSw
        go_simp
        try with_reducible rfl
      try simp only [Act.put, List.setIfInBounds_toArray, List.set_cons_zero, List.set_cons_succ]
      refine wpAnyH_take (i := 5) (oi := ⟨some 31, _, _, _, _, _⟩) (v := ?_) rfl (by kernel_rfl) (by kernel_rfl) (by kernel_rfl) (fun _ _ _ h => h) (Or.inl ⟨by rfl, ?_⟩) hH1 ?_
      rotate_left
      · intro w hSw
        try dsimp only at hSw
        go_simp
        try with_reducible rfl
      try simp only [Act.put, List.setIfInBounds_toArray, List.set_cons_zero, List.set_cons_succ]
      refine wpAnyH_take (i := 6) (oi := ⟨some 32, _, _, _, _, _⟩) (v := ?_) rfl (by kernel_rfl) (by kernel_rfl) (by kernel_rfl) (fun _ _ _ h => h) (Or.inl ⟨by rfl, ?_⟩) hH1 ?_
      rotate_left
      · intro w hSw
        try dsimp only at hSw
        go_simp
        try with_reducible rfl
      try simp only [Act.put, List.setIfInBounds_toArray, List.set_cons_zero, List.set_cons_succ]
      refine wpAnyH_take (i := 7) (oi := ⟨some 33, _, _, _, _, _⟩) (v := ?_) rfl (by kernel_rfl) (by kernel_rfl) (by kernel_rfl) (fun _ _ _ h => h) (Or.inl ⟨by rfl, ?_⟩) hH1 ?_
      rotate_left
      · intro w hSw
        try dsimp only at hSw
        go_simp
        try with_reducible rfl
      try simp only [Act.put, List.setIfInBounds_toArray, List.set_cons_zero, List.set_cons_succ]
      refine wpAnyH_take (i := 8) (oi := ⟨some 34, _, _, _, _, _⟩) (v := ?_) rfl (by kernel_rfl) (by kernel_rfl) (by kernel_rfl) (fun _ _ _ h => h) (Or.inl ⟨by rfl, ?_⟩) hH1 ?_
      rotate_left
      · intro w hSw
        try dsimp only at hSw
        go_simp
        try with_reducible rfl
      try simp only [Act.put, List.setIfInBounds_toArray, List.set_cons_zero, List.set_cons_succ]
      refine wpAnyH_take (i := 9) (oi := ⟨some 35, _, _, _, _, _⟩) (v := ?_) rfl (by kernel_rfl) (by kernel_rfl) (by kernel_rfl) (fun _ _ _ h => h) (Or.inl ⟨by rfl, ?_⟩) hH1 ?_
      rotate_left
      · intro w hSw
        try dsimp only at hSw
        go_simp
        try with_reducible rfl
      try simp only [Act.put, List.setIfInBounds_toArray, List.set_cons_zero, List.set_cons_succ]
      refine wpAnyH_ready (rs := [4]) (by kernel_rfl) (by simp) ?_
      refine AllReadyH.cons (o := ⟨some 30, _, _, _, _, _⟩) rfl (fun K hK => ?_) AllReadyH.nil
      go_simp
      refine (p_same HM.out.1 HM.out.2.1 HM.out.2.2.1 HM.out.2.2.2 L1.out SM.out).mono ?_
      rintro e x2 ⟨rfl, hx2⟩
      have L2 := Lib.hid (L1.out.below hx2)
      go_wp2_with fail
      refine hK.out _ _ (L2.out.cells) (fun hH2 => ?_)
      clear hK K hH1 hx2
      try simp only [Act.put, List.setIfInBounds_toArray, List.set_cons_zero, List.set_cons_succ]
      refine wpAnyH_take (i := 10) (oi := ⟨some 36, _, _, _, _, _⟩) (v := ?_) rfl (by kernel_rfl) (by kernel_rfl) (by kernel_rfl) (fun _ _ _ h => h) (Or.inl ⟨by rfl, ?_⟩) hH2 ?_
      rotate_left
      · intro w hSw
        try dsimp only at hSw
        go_simp
        try with_reducible rfl
      try simp only [Act.put, List.setIfInBounds_toArray, List.set_cons_zero, List.set_cons_succ]
      refine wpAnyH_take (i := 11) (oi := ⟨some 37, _, _, _, _, _⟩) (v := undef) rfl (by kernel_rfl) (by kernel_rfl) (by kernel_rfl) (fun _ _ _ h => h) (Or.inr ⟨by rfl, rfl⟩) hH2 ?_
      try simp only [Act.put, List.setIfInBounds_toArray, List.set_cons_zero, List.set_cons_succ]
      refine wpAnyH_take (i := 12) (oi := ⟨some 38, _, _, _, _, _⟩) (v := undef) rfl (by kernel_rfl) (by kernel_rfl) (by kernel_rfl) (fun _ _ _ h => h) (Or.inr ⟨by rfl, rfl⟩) hH2 ?_
      try simp only [Act.put, List.setIfInBounds_toArray, List.set_cons_zero, List.set_cons_succ]
      refine wpAnyH_take (i := 13) (oi := ⟨some 39, _, _, _, _, _⟩) (v := undef) rfl (by kernel_rfl) (by kernel_rfl) (by kernel_rfl) (fun _ _ _ h => h) (Or.inr ⟨by rfl, rfl⟩) hH2 ?_
      try simp only [Act.put, List.setIfInBounds_toArray, List.set_cons_zero, List.set_cons_succ]
      refine wpAnyH_take (i := 14) (oi := ⟨some 40, _, _, _, _, _⟩) (v := ?_) rfl (by kernel_rfl) (by kernel_rfl) (by kernel_rfl) (fun _ _ _ h => h) (Or.inl ⟨by rfl, ?_⟩) hH2 ?_
      rotate_left
      · intro w hSw
        try dsimp only at hSw
        go_simp
        try with_reducible rfl
      try simp only [Act.put, List.setIfInBounds_toArray, List.set_cons_zero, List.set_cons_succ]
      refine wpAnyH_take (i := 15) (oi := ⟨some 41, _, _, _, _, _⟩) (v := ?_) rfl (by kernel_rfl) (by kernel_rfl) (by kernel_rfl) (fun _ _ _ h => h) (Or.inl ⟨by rfl, ?_⟩) hH2 ?_
      rotate_left
      · intro w hSw
        try dsimp only at hSw
        go_simp
        try with_reducible rfl
      try simp only [Act.put, List.setIfInBounds_toArray, List.set_cons_zero, List.set_cons_succ]
      refine wpAnyH_take (i := 16) (oi := ⟨some 42, _, _, _, _, _⟩) (v := undef) rfl (by kernel_rfl) (by kernel_rfl) (by kernel_rfl) (fun _ _ _ h => h) (Or.inr ⟨by rfl, rfl⟩) hH2 ?_
      try simp only [Act.put, List.setIfInBounds_toArray, List.set_cons_zero, List.set_cons_succ]
      refine wpAnyH_take (i := 17) (oi := ⟨some 43, _, _, _, _, _⟩) (v := undef) rfl (by kernel_rfl) (by kernel_rfl) (by kernel_rfl) (fun _ _ _ h => h) (Or.inr ⟨by rfl, rfl⟩) hH2 ?_
      try simp only [Act.put, List.setIfInBounds_toArray, List.set_cons_zero, List.set_cons_succ]
      refine wpAnyH_take (i := 18) (oi := ⟨some 44, _, _, _, _, _⟩) (v := undef) rfl (by kernel_rfl) (by kernel_rfl) (by kernel_rfl) (fun _ _ _ h => h) (Or.inr ⟨by rfl, rfl⟩) hH2 ?_
      try simp only [Act.put, List.setIfInBounds_toArray, List.set_cons_zero, List.set_cons_succ]
      refine wpAnyH_take (i := 19) (oi := ⟨some 45, _, _, _, _, _⟩) (v := ?_) rfl (by kernel_rfl) (by kernel_rfl) (by kernel_rfl) (fun _ _ _ h => h) (Or.inl ⟨by rfl, ?_⟩) hH2 ?_
      rotate_left
      · intro w hSw
        try dsimp only at hSw
        go_simp
        try with_reducible rfl
      try simp only [Act.put, List.setIfInBounds_toArray, List.set_cons_zero, List.set_cons_succ]
      refine wpAnyH_take (i := 20) (oi := ⟨some 46, _, _, _, _, _⟩) (v := ?_) rfl (by kernel_rfl) (by kernel_rfl) (by kernel_rfl) (fun _ _ _ h => h) (Or.inl ⟨by rfl, ?_⟩) hH2 ?_
      rotate_left
      · intro w hSw
        try dsimp only at hSw
        go_simp
        try with_reducible rfl
      try simp only [Act.put, List.setIfInBounds_toArray, List.set_cons_zero, List.set_cons_succ]
      refine wpAnyH_take (i := 21) (oi := ⟨some 47, _, _, _, _, _⟩) (v := ?_) rfl (by kernel_rfl) (by kernel_rfl) (by kernel_rfl) (fun _ _ _ h => h) (Or.inl ⟨by rfl, ?_⟩) hH2 ?_
      rotate_left
      · intro w hSw
        try dsimp only at hSw
        go_simp
        try with_reducible rfl
      try simp only [Act.put, List.setIfInBounds_toArray, List.set_cons_zero, List.set_cons_succ]
      refine wpAnyH_take (i := 22) (oi := ⟨some 48, _, _, _, _, _⟩) (v := ?_) rfl (by kernel_rfl) (by kernel_rfl) (by kernel_rfl) (fun _ _ _ h => h) (Or.inl ⟨by rfl, ?_⟩) hH2 ?_
      rotate_left
      · intro w hSw
        try dsimp only at hSw
        go_simp
        try with_reducible rfl
      try simp only [Act.put, List.setIfInBounds_toArray, List.set_cons_zero, List.set_cons_succ]
      refine wpAnyH_take (i := 23) (oi := ⟨some 49, _, _, _, _, _⟩) (v := ?_) rfl (by kernel_rfl) (by kernel_rfl) (by kernel_rfl) (fun _ _ _ h => h) (Or.inl ⟨by rfl, ?_⟩) hH2 ?_
      rotate_left
      · intro w hSw
        try dsimp only at hSw
        go_simp
        try with_reducible rfl
      try simp only [Act.put, List.setIfInBounds_toArray, List.set_cons_zero, List.set_cons_succ]
      refine wpAnyH_take (i := 24) (oi := ⟨some 50, _, _, _, _, _⟩) (v := ?_) rfl (by kernel_rfl) (by kernel_rfl) (by kernel_rfl) (fun _ _ _ h => h) (Or.inl ⟨by rfl, ?_⟩) hH2 ?_
      rotate_left
      · intro w hSw
        try dsimp only at hSw
        go_simp
        try with_reducible rfl
      try simp only [Act.put, List.setIfInBounds_toArray, List.set_cons_zero, List.set_cons_succ]
      refine wpAnyH_take (i := 26) (oi := ⟨some 52, _, _, _, _, _⟩) (v := ?_) rfl (by kernel_rfl) (by kernel_rfl) (by kernel_rfl) (fun _ _ _ h => h) (Or.inl ⟨by rfl, ?_⟩) hH2 ?_
      rotate_left
      · intro w hSw
        try dsimp only at hSw
        go_simp
        try with_reducible rfl
      try simp only [Act.put, List.setIfInBounds_toArray, List.set_cons_zero, List.set_cons_succ]
      refine wpAnyH_take (i := 27) (oi := ⟨some 53, _, _, _, _, _⟩) (v := ?_) rfl (by kernel_rfl) (by kernel_rfl) (by kernel_rfl) (fun _ _ _ h => h) (Or.inl ⟨by rfl, ?_⟩) hH2 ?_
      rotate_left
      · intro w hSw
        try dsimp only at hSw
        go_simp
        try with_reducible rfl
      try simp only [Act.put, List.setIfInBounds_toArray, List.set_cons_zero, List.set_cons_succ]
      refine wpAnyH_ready (rs := [25]) (by kernel_rfl) (by simp) ?_
      refine AllReadyH.cons (o := ⟨some 51, _, _, _, _, _⟩) rfl (fun K hK => ?_) AllReadyH.nil
      go_simp
      refine (p_join HM.out.1 HM.out.2.1 HM.out.2.2.1 HM.out.2.2.2 L2.out).mono ?_
      rintro e x3 ⟨A5, c5, rfl, hz5, hx3⟩
      have L3 := Lib.hid (L2.out.below hx3)
      have Z5 := Lib.hid hz5
      go_wp2_with fail
      refine hK.out _ _ (L3.out.cells) (fun hH3 => ?_)
      clear hK K hH2 hx3
      try simp only [Act.put, List.setIfInBounds_toArray, List.set_cons_zero, List.set_cons_succ]
      refine wpAnyH_ready (rs := [28]) (by kernel_rfl) (by simp) ?_
      refine AllReadyH.cons (o := ⟨some 54, _, _, _, _, _⟩) rfl (fun K hK => ?_) AllReadyH.nil
      go_simp
      refine (p_join2 HM.out.1 HM.out.2.1 HM.out.2.2.1 HM.out.2.2.2 L3.out).mono ?_
      rintro e x4 ⟨A6, c6, rfl, hz6, hx4⟩
      have L4 := Lib.hid (L3.out.below hx4)
      have Z6 := Lib.hid hz6; have Z5 := Lib.hid (Z5.out.below hx4)
      go_wp2_with fail
      refine hK.out _ _ (L4.out.cells) (fun hH4 => ?_)
      clear hK K hH3 hx4
      try simp only [Act.put, List.setIfInBounds_toArray, List.set_cons_zero, List.set_cons_succ]
      refine wpAnyH_ready (rs := [29]) (by kernel_rfl) (by simp) ?_
      refine AllReadyH.cons (o := ⟨some 55, _, _, _, _, _⟩) rfl (fun K hK => ?_) AllReadyH.nil
      go_simp
      refine (p_same2 (meM_bd HM.out.1 HM.out.2.1).1 (meM_bd HM.out.1 HM.out.2.1).2 Z5.out Z6.out).mono ?_
      rintro e x5 ⟨rfl, hx5⟩
      have L5 := Lib.hid (L4.out.below hx5)
      go_wp2_with fail
      refine hK.out _ _ (L5.out.cells) (fun hH5 => ?_)
      clear hK K hH4 hx5
      try simp only [Act.put, List.setIfInBounds_toArray, List.set_cons_zero, List.set_cons_succ]
      refine wpAnyH_take (i := 30) (oi := ⟨some 56, _, _, _, _, _⟩) (v := ?_) rfl (by kernel_rfl) (by kernel_rfl) (by kernel_rfl) (fun _ _ _ h => h) (Or.inl ⟨by rfl, ?_⟩) hH5 ?_
      rotate_left
      · intro w hSw
        try dsimp only at hSw
        go_simp
        try with_reducible rfl
      try simp only [Act.put, List.setIfInBounds_toArray, List.set_cons_zero, List.set_cons_succ]
      refine wpAnyH_take (i := 31) (oi := ⟨some 4, _, _, _, _, _⟩) (v := ?_) rfl (by kernel_rfl) (by kernel_rfl) (by kernel_rfl) (fun _ _ _ h => h) (Or.inl ⟨by rfl, ?_⟩) hH5 ?_
      rotate_left
      · intro w hSw
        try dsimp only at hSw
        go_simp
        try with_reducible rfl
      try simp only [Act.put, List.setIfInBounds_toArray, List.set_cons_zero, List.set_cons_succ]
      refine wpAnyH_done (by kernel_rfl) ?_ _
      have HB := Lib.hid L5.out.2.2.2.2
      clear hH5
      go_wp2_with fail
      go_ret
      exact ⟨rfl, HB.out⟩
end Go.Proofs.YtjolpplghokngaaDoor
