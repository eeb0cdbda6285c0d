/- ZoneSets: both zones have at most 100 bounds. -/
import Derived.Test.YtcbkffpmclainaaDoorTwoNew
import Derived.Test.YtcbkffpmclainaaDoorPoints
import Derived.Test.YtcbkffpmclainaaDoorRJoin
namespace Go.Proofs.YtcbkffpmclainaaDoor
open Go.RowKit
attribute [local go_sem ↓] Go.wp_at_zero Go.wp_at_succ

set_option maxRecDepth 100000 in
set_option maxHeartbeats 25600000 in
theorem sets_in {w : World} {Na Nb : Int} {Aa Ab : Option Addr} {la ca lb cb ma mb mm : Nat} {Ra Rb RJ RM : Option Mat} {lq : Bool} (g : la ≤ 100) (h : lb ≤ 100)
    (KCa : ∀ W, Below w.heap.size w W → Calls Tryd.prog 19 #[zoneV Na Aa la ca] W (RetC W ma Ra)) (KCb : ∀ W, Below w.heap.size w W → Calls Tryd.prog 19 #[zoneV Nb Ab lb cb] W (RetC W mb Rb))
    (KJn : ∀ W, Below w.heap.size w W → Calls Tryd.prog 25 #[zoneV Na Aa la ca, zoneV Nb Ab lb cb] W (RetC W mm RJ)) (KMt : ∀ W, Below w.heap.size w W → Calls Tryd.prog 26 #[zoneV Na Aa la ca, zoneV Nb Ab lb cb] W (RetC W mm RM))
    (KLe : ∀ W, Below w.heap.size w W → Calls Tryd.prog 27 #[zoneV Na Aa la ca, zoneV Nb Ab lb cb] W (RetB W lq))
    (h0 : 0 < ma) (h7 : ma ≤ 7) (hh : (ma ≠ mb ∧ mm = 1 ∧ RJ = none ∧ RM = none ∧ lq = false) ∨ (ma = mb ∧ ma = mm ∧ RJ = jnO ma ma Ra Rb ∧ RM = mtO ma ma Ra Rb ∧ lq = leqO ma ma Ra Rb)) :
    Calls Tryd.prog 4 #[zoneV Na Aa la ca, zoneV Nb Ab lb cb] w (RetB w true) := by
  have M := Lib.hid (pz_new w Na Aa la ca Nb Ab lb cb)
  have HFa : Hid (∀ W, Calls Tryd.prog 9 #[zoneV Na Aa la ca] W (RetB W true)) := Lib.hid fun W => by
    have := few_any W Na Aa la ca
    rw [decide_eq_true g] at this
    exact this
  have HFb : Hid (∀ W, Calls Tryd.prog 9 #[zoneV Nb Ab lb cb] W (RetB W true)) := Lib.hid fun W => by
    have := few_any W Nb Ab lb cb
    rw [decide_eq_true h] at this
    exact this
  have HK := Lib.hid (And.intro KCa (And.intro KCb (And.intro KJn (And.intro KMt KLe))))
  clear g h KCa KCb KJn KMt KLe
  go_enter Tryd.func4, Tryd.ntmps4
  go_wp2_with (first
    | (go_at_call 9; ((with_reducible refine (HFa.out _).mono ?_); rintro e w1 ⟨rfl, hb1⟩); have M1 := Lib.hid (M.out.below hb1); obtain ⟨⟨a0, a1⟩, a2, a3⟩ := M1.out.s; have a4 := M1.out.za.lt; have a5 := M1.out.zb.lt; clear hb1)
    | (go_at_call 9; ((with_reducible refine (HFb.out _).mono ?_); rintro e w2 ⟨rfl, hb2⟩); have M2 := Lib.hid (M1.out.below hb2); obtain ⟨⟨a0, a1⟩, a2, a3⟩ := M2.out.s; have a4 := M2.out.za.lt; have a5 := M2.out.zb.lt; clear hb2))
  have HCa := Lib.hid (fun (W : World) (hb : Below w2.heap.size w2 W) => HK.out.1 W (M2.out.low.trans (hb.mono M2.out.low.size)))
  have HCb := Lib.hid (fun (W : World) (hb : Below w2.heap.size w2 W) => HK.out.2.1 W (M2.out.low.trans (hb.mono M2.out.low.size)))
  have CUR : Hid (Nr.ST w2 w.heap.size (w.heap.size + 1) (.int .i64 Na) (.slice Aa la ca) (.int .i64 Nb) (.slice Ab lb cb) ma mb Ra Rb none none none none w2) := Lib.hid (Nr.st_new ⟨Below.refl _ _, M2.out.s.1.1, M2.out.s.1.2, M2.out.s.2.1, M2.out.s.2.2, M2.out.za.lt, M2.out.zb.lt⟩)
  go_cut [5, 6] (fun s t wx => Nr.Two w2 ma mb Ra Rb s t wx)
  case first =>
    go_region_held3 (fun w' => Below w2.heap.size w2 w' ∧ w'.cell? ⟨w.heap.size, 0, none⟩ = some (.int .i64 Na) ∧ w'.cell? ⟨w.heap.size, 1, none⟩ = some (.slice Aa la ca) ∧ w'.cell? ⟨w.heap.size + 1, 0, none⟩ = some (.int .i64 Nb) ∧ w'.cell? ⟨w.heap.size + 1, 1, none⟩ = some (.slice Ab lb cb) ∧ w.heap.size < w2.heap.size ∧ w.heap.size + 1 < w2.heap.size)
      (repeat (first | (with_reducible exact CUR.out.s.conj) | (with_reducible refine Nr.kb_drew ?_) | (with_reducible refine Nr.kb_alloc _ ?_) | ((with_reducible refine Nr.kb_set _ ?_ ?_); (dsimp only); (first | (exact (CUR.out.one _ rfl).2) | (exact (CUR.out.two _ rfl).2) | (exact CUR.out.s.1.size) | (exact Nat.le_succ_of_le CUR.out.s.1.size)))))
      (first
        | (go_at_call 19; ((with_reducible refine (Nr.st_one HCa.out CUR.out).mono ?_); rintro e w1 ⟨A3, c3, rfl, hS⟩); have CUR := Lib.hid hS; clear hS)
        | (go_at_call 19; ((with_reducible refine (Nr.st_one HCa.out CUR.out.mk1).mono ?_); rintro e w1 ⟨A3, c3, rfl, hS⟩); have CUR := Lib.hid hS; clear hS)
        | (go_at_call 19; ((with_reducible refine (Nr.st_one HCa.out CUR.out.mk2).mono ?_); rintro e w1 ⟨A3, c3, rfl, hS⟩); have CUR := Lib.hid hS; clear hS)
        | (go_at_call 19; ((with_reducible refine (Nr.st_one HCa.out CUR.out.mk12x).mono ?_); rintro e w1 ⟨A3, c3, rfl, hS⟩); have CUR := Lib.hid hS; clear hS)
        | (go_at_call 19; ((with_reducible refine (Nr.st_one HCa.out CUR.out.dr).mono ?_); rintro e w1 ⟨A3, c3, rfl, hS⟩); have CUR := Lib.hid hS; clear hS)
        | (go_at_call 19; ((with_reducible refine (Nr.st_one HCa.out CUR.out.mk1d).mono ?_); rintro e w1 ⟨A3, c3, rfl, hS⟩); have CUR := Lib.hid hS; clear hS)
        | (go_at_call 19; ((with_reducible refine (Nr.st_one HCa.out CUR.out.mk12x.dr).mono ?_); rintro e w1 ⟨A3, c3, rfl, hS⟩); have CUR := Lib.hid hS; clear hS)
        | (go_at_call 19; ((with_reducible refine (Nr.st_two HCb.out CUR.out).mono ?_); rintro e w1 ⟨A6, c6, rfl, hS⟩); have CUR := Lib.hid hS; clear hS; (try (obtain ⟨p1, q1, D1⟩ := (CUR.out.one _ rfl).1; have d1 := D1.lt; have d2 := D1.frozen0; have d3 := D1.frozen1; have d4 := D1.cell0; have d5 := D1.cell1; clear D1)); (try (obtain ⟨p2, q2, D2⟩ := (CUR.out.two _ rfl).1; have e1 := D2.lt; have e2 := D2.frozen0; have e3 := D2.frozen1; have e4 := D2.cell0; have e5 := D2.cell1; clear D2)); (try (have ne := CUR.out.ne _ _ rfl rfl)))
        | (go_at_call 19; ((with_reducible refine (Nr.st_two HCb.out CUR.out.mk1).mono ?_); rintro e w1 ⟨A6, c6, rfl, hS⟩); have CUR := Lib.hid hS; clear hS; (try (obtain ⟨p1, q1, D1⟩ := (CUR.out.one _ rfl).1; have d1 := D1.lt; have d2 := D1.frozen0; have d3 := D1.frozen1; have d4 := D1.cell0; have d5 := D1.cell1; clear D1)); (try (obtain ⟨p2, q2, D2⟩ := (CUR.out.two _ rfl).1; have e1 := D2.lt; have e2 := D2.frozen0; have e3 := D2.frozen1; have e4 := D2.cell0; have e5 := D2.cell1; clear D2)); (try (have ne := CUR.out.ne _ _ rfl rfl)))
        | (go_at_call 19; ((with_reducible refine (Nr.st_two HCb.out CUR.out.mk2).mono ?_); rintro e w1 ⟨A6, c6, rfl, hS⟩); have CUR := Lib.hid hS; clear hS; (try (obtain ⟨p1, q1, D1⟩ := (CUR.out.one _ rfl).1; have d1 := D1.lt; have d2 := D1.frozen0; have d3 := D1.frozen1; have d4 := D1.cell0; have d5 := D1.cell1; clear D1)); (try (obtain ⟨p2, q2, D2⟩ := (CUR.out.two _ rfl).1; have e1 := D2.lt; have e2 := D2.frozen0; have e3 := D2.frozen1; have e4 := D2.cell0; have e5 := D2.cell1; clear D2)); (try (have ne := CUR.out.ne _ _ rfl rfl)))
        | (go_at_call 19; ((with_reducible refine (Nr.st_two HCb.out CUR.out.mk12x).mono ?_); rintro e w1 ⟨A6, c6, rfl, hS⟩); have CUR := Lib.hid hS; clear hS; (try (obtain ⟨p1, q1, D1⟩ := (CUR.out.one _ rfl).1; have d1 := D1.lt; have d2 := D1.frozen0; have d3 := D1.frozen1; have d4 := D1.cell0; have d5 := D1.cell1; clear D1)); (try (obtain ⟨p2, q2, D2⟩ := (CUR.out.two _ rfl).1; have e1 := D2.lt; have e2 := D2.frozen0; have e3 := D2.frozen1; have e4 := D2.cell0; have e5 := D2.cell1; clear D2)); (try (have ne := CUR.out.ne _ _ rfl rfl)))
        | (go_at_call 19; ((with_reducible refine (Nr.st_two HCb.out CUR.out.dr).mono ?_); rintro e w1 ⟨A6, c6, rfl, hS⟩); have CUR := Lib.hid hS; clear hS; (try (obtain ⟨p1, q1, D1⟩ := (CUR.out.one _ rfl).1; have d1 := D1.lt; have d2 := D1.frozen0; have d3 := D1.frozen1; have d4 := D1.cell0; have d5 := D1.cell1; clear D1)); (try (obtain ⟨p2, q2, D2⟩ := (CUR.out.two _ rfl).1; have e1 := D2.lt; have e2 := D2.frozen0; have e3 := D2.frozen1; have e4 := D2.cell0; have e5 := D2.cell1; clear D2)); (try (have ne := CUR.out.ne _ _ rfl rfl)))
        | (go_at_call 19; ((with_reducible refine (Nr.st_two HCb.out CUR.out.mk1d).mono ?_); rintro e w1 ⟨A6, c6, rfl, hS⟩); have CUR := Lib.hid hS; clear hS; (try (obtain ⟨p1, q1, D1⟩ := (CUR.out.one _ rfl).1; have d1 := D1.lt; have d2 := D1.frozen0; have d3 := D1.frozen1; have d4 := D1.cell0; have d5 := D1.cell1; clear D1)); (try (obtain ⟨p2, q2, D2⟩ := (CUR.out.two _ rfl).1; have e1 := D2.lt; have e2 := D2.frozen0; have e3 := D2.frozen1; have e4 := D2.cell0; have e5 := D2.cell1; clear D2)); (try (have ne := CUR.out.ne _ _ rfl rfl)))
        | (go_at_call 19; ((with_reducible refine (Nr.st_two HCb.out CUR.out.mk12x.dr).mono ?_); rintro e w1 ⟨A6, c6, rfl, hS⟩); have CUR := Lib.hid hS; clear hS; (try (obtain ⟨p1, q1, D1⟩ := (CUR.out.one _ rfl).1; have d1 := D1.lt; have d2 := D1.frozen0; have d3 := D1.frozen1; have d4 := D1.cell0; have d5 := D1.cell1; clear D1)); (try (obtain ⟨p2, q2, D2⟩ := (CUR.out.two _ rfl).1; have e1 := D2.lt; have e2 := D2.frozen0; have e3 := D2.frozen1; have e4 := D2.cell0; have e5 := D2.cell1; clear D2)); (try (have ne := CUR.out.ne _ _ rfl rfl))))
    all_goals go_wp2_with fail
    all_goals go_meet
    all_goals (first | (with_reducible exact Nr.st_end CUR.out) | (with_reducible exact Nr.st_end2 CUR.out) | (with_reducible exact Nr.st_end3 CUR.out) | (with_reducible exact Nr.st_end4 CUR.out) | (with_reducible exact Nr.st_end5 CUR.out) | (with_reducible exact Nr.st_end6 CUR.out) | (with_reducible exact (Nr.st_end CUR.out).dr) | (with_reducible exact (Nr.st_end2 CUR.out).dr) | (with_reducible exact (Nr.st_end3 CUR.out).dr) | (with_reducible exact (Nr.st_end4 CUR.out).dr) | (with_reducible exact (Nr.st_end5 CUR.out).dr) | (with_reducible exact (Nr.st_end6 CUR.out).dr))
  case rest =>
    obtain ⟨gx, gy, bx, by_, AX, AY, cx, cy, hT⟩ := hcut
    obtain ⟨wo, hwo⟩ : ∃ wo, wo = wc := ⟨_, rfl⟩
    rw [← hwo] at hT ⊢
    clear hwo
    have T := Lib.hid hT
    obtain rfl := hT.es
    obtain rfl := hT.et
    have MO := Lib.hid (M2.out.below hT.low)
    clear hT CUR HCa HCb a0 a1 a2 a3 a4 a5
    have HJn := Lib.hid (fun (W : World) (hb : Below wo.heap.size wo W) => HK.out.2.2.1 W (MO.out.low.trans (hb.mono MO.out.low.size)))
    have HMt := Lib.hid (fun (W : World) (hb : Below wo.heap.size wo W) => HK.out.2.2.2.1 W (MO.out.low.trans (hb.mono MO.out.low.size)))
    have HLe : Hid (∀ W, Below wo.heap.size wo W → Calls Tryd.prog 27 #[zoneV Na Aa la ca, zoneV Nb Ab lb cb] W fun e w' => e = .returned (.bool lq) ∧ Below W.heap.size W w') := Lib.hid (fun (W : World) (hb : Below wo.heap.size wo W) => HK.out.2.2.2.2 W (MO.out.low.trans (hb.mono MO.out.low.size)))
    have CUR : Hid (Nz.ST wo w.heap.size (w.heap.size + 1) (.int .i64 Na) (.slice Aa la ca) (.int .i64 Nb) (.slice Ab lb cb) mm mm RJ RM none none none none wo) := Lib.hid (Nz.st_new ⟨Below.refl _ _, MO.out.s.1.1, MO.out.s.1.2, MO.out.s.2.1, MO.out.s.2.2, MO.out.za.lt, MO.out.zb.lt⟩)
    go_wp2_with fail
    go_cut [7, 8, 9] (fun s t u wx => u = .bool lq ∧ Nz.Two wo mm mm RJ RM s t wx)
    case first =>
      refine wp_region_held_drew (S := fun w' => Below wo.heap.size wo w' ∧ w'.cell? ⟨w.heap.size, 0, none⟩ = some (.int .i64 Na) ∧ w'.cell? ⟨w.heap.size, 1, none⟩ = some (.slice Aa la ca) ∧ w'.cell? ⟨w.heap.size + 1, 0, none⟩ = some (.int .i64 Nb) ∧ w'.cell? ⟨w.heap.size + 1, 1, none⟩ = some (.slice Ab lb cb) ∧ w.heap.size < wo.heap.size ∧ w.heap.size + 1 < wo.heap.size) (by kernel_rfl) (CUR.out.dr.s.conj) (fun hH0 => ?_)
      try simp only [List.size_toArray, List.length_cons, List.length_nil, Nat.reduceAdd, Array.replicate_succ, Array.replicate_zero, List.push_toArray, List.nil_append, List.cons_append]
      refine wpAnyH_take (i := 0) (oi := ⟨some 23, _, _, _, _, _⟩) (v := ?_) rfl (by kernel_rfl) (by kernel_rfl) (by kernel_rfl) (fun _ _ _ h => h) (Or.inl ⟨by rfl, ?_⟩) hH0 ?_
      rotate_left
      · intro w hSw
        try dsimp only at hSw
        go_simp
        try with_reducible rfl
      try simp only [Act.put, List.setIfInBounds_toArray, List.set_cons_zero, List.set_cons_succ]
      refine wpAnyH_take (i := 2) (oi := ⟨some 25, _, _, _, _, _⟩) (v := ?_) rfl (by kernel_rfl) (by kernel_rfl) (by kernel_rfl) (fun _ _ _ h => h) (Or.inl ⟨by rfl, ?_⟩) hH0 ?_
      rotate_left
      · intro w hSw
        try dsimp only at hSw
        go_simp
        try with_reducible rfl
      try simp only [Act.put, List.setIfInBounds_toArray, List.set_cons_zero, List.set_cons_succ]
      refine wpAnyH_take (i := 5) (oi := ⟨some 28, _, _, _, _, _⟩) (v := ?_) rfl (by kernel_rfl) (by kernel_rfl) (by kernel_rfl) (fun _ _ _ h => h) (Or.inl ⟨by rfl, ?_⟩) hH0 ?_
      rotate_left
      · intro w hSw
        try dsimp only at hSw
        go_simp
        try with_reducible rfl
      try simp only [Act.put, List.setIfInBounds_toArray, List.set_cons_zero, List.set_cons_succ]
      refine wpAnyH_take (i := 7) (oi := ⟨some 30, _, _, _, _, _⟩) (v := ?_) rfl (by kernel_rfl) (by kernel_rfl) (by kernel_rfl) (fun _ _ _ h => h) (Or.inl ⟨by rfl, ?_⟩) hH0 ?_
      rotate_left
      · intro w hSw
        try dsimp only at hSw
        go_simp
        try with_reducible rfl
      try simp only [Act.put, List.setIfInBounds_toArray, List.set_cons_zero, List.set_cons_succ]
      refine wpAnyH_take (i := 10) (oi := ⟨some 33, _, _, _, _, _⟩) (v := ?_) rfl (by kernel_rfl) (by kernel_rfl) (by kernel_rfl) (fun _ _ _ h => h) (Or.inl ⟨by rfl, ?_⟩) hH0 ?_
      rotate_left
      · intro w hSw
        try dsimp only at hSw
        go_simp
        try with_reducible rfl
      try simp only [Act.put, List.setIfInBounds_toArray, List.set_cons_zero, List.set_cons_succ]
      refine wpAnyH_take (i := 12) (oi := ⟨some 35, _, _, _, _, _⟩) (v := ?_) rfl (by kernel_rfl) (by kernel_rfl) (by kernel_rfl) (fun _ _ _ h => h) (Or.inl ⟨by rfl, ?_⟩) hH0 ?_
      rotate_left
      · intro w hSw
        try dsimp only at hSw
        go_simp
        try with_reducible rfl
      try simp only [Act.put, List.setIfInBounds_toArray, List.set_cons_zero, List.set_cons_succ]
      show wpAnyH _ _ ?zops4 ?zq4 ?zs4 _ _ { tmps := ?zt4, defers := ?zd4 } _
      have Y978 : Hid (∀ (W : World) (g7 : Nat) (g8 : Nat) (A3 : Option Addr) (c3 : Nat) (A6 : Option Addr) (c6 : Nat), Nz.ST wo w.heap.size (w.heap.size + 1) (.int .i64 Na) (.slice Aa la ca) (.int .i64 Nb) (.slice Ab lb cb) mm mm RJ RM (some g7) (some g8) (some (A3, c3)) (some (A6, c6)) W → wpAnyH Tryd.prog .any ?zops4 ?zq4 ?zs4 3 #[true, true, true, true, true, true, true, true, true, true, true, true, true, true, true, true, true, false, false, false] (((((((((((({ tmps := ?zt4, defers := ?zd4 } : Act).put (some 24) (zoneV Na Aa la ca)).put (some 26) (zoneV Nb Ab lb cb)).put (some 27) (zoneV ((mm : Int) - 1) A3 (rlen mm RJ) c3)).put (some 29) (zoneV Na Aa la ca)).put (some 31) (zoneV Nb Ab lb cb)).put (some 32) (zoneV ((mm : Int) - 1) A6 (rlen mm RM) c6)).put (some 34) (zoneV Na Aa la ca)).put (some 36) (zoneV Nb Ab lb cb)).put (some 37) (.bool lq)).put (some 7) (.pointer (some ⟨g7, 0, none⟩))).put (some 8) (.pointer (some ⟨g8, 0, none⟩))) W) := Lib.hid (by
        intro W g7 g8 A3 c3 A6 c6 hST
        have CUR := Lib.hid hST
        clear hST
        simp only [Act.put, List.setIfInBounds_toArray, List.set_cons_zero, List.set_cons_succ]
        obtain ⟨p1, q1, D1⟩ := (CUR.out.one _ rfl).1
        have d1 := D1.lt
        have d2 := D1.frozen0
        have d3 := D1.frozen1
        have d4 := D1.cell0
        have d5 := D1.cell1
        obtain ⟨p2, q2, D2⟩ := (CUR.out.two _ rfl).1
        have e1 := D2.lt
        have e2 := D2.frozen0
        have e3 := D2.frozen1
        have e4 := D2.cell0
        have e5 := D2.cell1
        have ne := CUR.out.ne _ _ rfl rfl
        clear D1 D2
        refine wpAnyH_ready (rs := [17]) (by kernel_rfl) (by simp) ?_
        refine AllReadyH.cons (o := ⟨none, _, _, _, _, _⟩) rfl (fun K hK => ?_) AllReadyH.nil
        go_simp
        refine hK.out _ _ (Nz.kb_set _ (CUR.out.one _ rfl).2 (Nz.kb_set _ (CUR.out.one _ rfl).2 CUR.out.s.conj)) (fun hH => ?_)
        clear hK K hH
        try simp only [List.setIfInBounds_toArray, List.set_cons_zero, List.set_cons_succ]
        refine wpAnyH_ready (rs := [18]) (by kernel_rfl) (by simp) ?_
        refine AllReadyH.cons (o := ⟨none, _, _, _, _, _⟩) rfl (fun K hK => ?_) AllReadyH.nil
        go_simp
        refine hK.out _ _ (Nz.kb_set _ (CUR.out.two _ rfl).2 (Nz.kb_set _ (CUR.out.two _ rfl).2 (Nz.kb_set _ (CUR.out.one _ rfl).2 (Nz.kb_set _ (CUR.out.one _ rfl).2 CUR.out.s.conj)))) (fun hH => ?_)
        try simp only [List.setIfInBounds_toArray, List.set_cons_zero, List.set_cons_succ]
        refine wpAnyH_take (i := 19) (oi := ⟨some 9, _, _, _, _, _⟩) (v := ?_) rfl (by kernel_rfl) (by kernel_rfl) (by kernel_rfl) (fun _ _ _ h => h) (Or.inl ⟨by rfl, ?_⟩) hH ?_
        rotate_left
        · intro w hSw
          try dsimp only at hSw
          go_simp
          try with_reducible rfl
        try simp only [Act.put, List.setIfInBounds_toArray, List.set_cons_zero, List.set_cons_succ]
        refine wpAnyH_done (by kernel_rfl) ?_ _
        go_wp2_with fail
        go_meet
        exact ⟨rfl, Nz.st_end CUR.out⟩)
      simp only [Act.put, List.setIfInBounds_toArray, List.set_cons_zero, List.set_cons_succ] at Y978
      have Y97 : Hid (∀ (W : World) (g7 : Nat) (A3 : Option Addr) (c3 : Nat) (A6 : Option Addr) (c6 : Nat), Nz.ST wo w.heap.size (w.heap.size + 1) (.int .i64 Na) (.slice Aa la ca) (.int .i64 Nb) (.slice Ab lb cb) mm mm RJ RM (some g7) none (some (A3, c3)) (some (A6, c6)) W → wpAnyH Tryd.prog .any ?zops4 ?zq4 ?zs4 4 #[true, true, true, true, true, true, true, true, true, true, true, true, true, true, true, true, false, false, false, false] ((((((((((({ tmps := ?zt4, defers := ?zd4 } : Act).put (some 24) (zoneV Na Aa la ca)).put (some 26) (zoneV Nb Ab lb cb)).put (some 27) (zoneV ((mm : Int) - 1) A3 (rlen mm RJ) c3)).put (some 29) (zoneV Na Aa la ca)).put (some 31) (zoneV Nb Ab lb cb)).put (some 32) (zoneV ((mm : Int) - 1) A6 (rlen mm RM) c6)).put (some 34) (zoneV Na Aa la ca)).put (some 36) (zoneV Nb Ab lb cb)).put (some 37) (.bool lq)).put (some 7) (.pointer (some ⟨g7, 0, none⟩))) W) := Lib.hid (by
        intro W g7 A3 c3 A6 c6 hST
        have CUR := Lib.hid hST
        clear hST
        simp only [Act.put, List.setIfInBounds_toArray, List.set_cons_zero, List.set_cons_succ]
        refine wpAnyH_ready (rs := [16]) (by kernel_rfl) (by simp) ?_
        refine (AllReadyH.cons (o := ⟨some 8, _, _, _, _, _⟩) rfl (fun K hK => ?_) AllReadyH.nil)
        · go_simp
          refine hK.out _ _ (CUR.out.mkb.s.conj) (fun hH => ?_)
          clear hK K hH
          try simp only [List.setIfInBounds_toArray, List.set_cons_zero, List.set_cons_succ]
          exact Y978.out _ g7 _ A3 c3 A6 c6 CUR.out.mkb)
      simp only [Act.put, List.setIfInBounds_toArray, List.set_cons_zero, List.set_cons_succ] at Y97
      have Y98 : Hid (∀ (W : World) (g8 : Nat) (A3 : Option Addr) (c3 : Nat) (A6 : Option Addr) (c6 : Nat), Nz.ST wo w.heap.size (w.heap.size + 1) (.int .i64 Na) (.slice Aa la ca) (.int .i64 Nb) (.slice Ab lb cb) mm mm RJ RM none (some g8) (some (A3, c3)) (some (A6, c6)) W → wpAnyH Tryd.prog .any ?zops4 ?zq4 ?zs4 4 #[true, true, true, true, true, true, true, true, true, true, true, true, true, true, true, false, true, false, false, false] ((((((((((({ tmps := ?zt4, defers := ?zd4 } : Act).put (some 24) (zoneV Na Aa la ca)).put (some 26) (zoneV Nb Ab lb cb)).put (some 27) (zoneV ((mm : Int) - 1) A3 (rlen mm RJ) c3)).put (some 29) (zoneV Na Aa la ca)).put (some 31) (zoneV Nb Ab lb cb)).put (some 32) (zoneV ((mm : Int) - 1) A6 (rlen mm RM) c6)).put (some 34) (zoneV Na Aa la ca)).put (some 36) (zoneV Nb Ab lb cb)).put (some 37) (.bool lq)).put (some 8) (.pointer (some ⟨g8, 0, none⟩))) W) := Lib.hid (by
        intro W g8 A3 c3 A6 c6 hST
        have CUR := Lib.hid hST
        clear hST
        simp only [Act.put, List.setIfInBounds_toArray, List.set_cons_zero, List.set_cons_succ]
        refine wpAnyH_ready (rs := [15]) (by kernel_rfl) (by simp) ?_
        refine (AllReadyH.cons (o := ⟨some 7, _, _, _, _, _⟩) rfl (fun K hK => ?_) AllReadyH.nil)
        · go_simp
          refine hK.out _ _ (CUR.out.mka.s.conj) (fun hH => ?_)
          clear hK K hH
          try simp only [List.setIfInBounds_toArray, List.set_cons_zero, List.set_cons_succ]
          exact Y978.out _ _ g8 A3 c3 A6 c6 CUR.out.mka)
      simp only [Act.put, List.setIfInBounds_toArray, List.set_cons_zero, List.set_cons_succ] at Y98
      have Y9 : Hid (∀ (W : World) (A3 : Option Addr) (c3 : Nat) (A6 : Option Addr) (c6 : Nat), Nz.ST wo w.heap.size (w.heap.size + 1) (.int .i64 Na) (.slice Aa la ca) (.int .i64 Nb) (.slice Ab lb cb) mm mm RJ RM none none (some (A3, c3)) (some (A6, c6)) W → wpAnyH Tryd.prog .any ?zops4 ?zq4 ?zs4 5 #[true, true, true, true, true, true, true, true, true, true, true, true, true, true, true, false, false, false, false, false] (((((((((({ tmps := ?zt4, defers := ?zd4 } : Act).put (some 24) (zoneV Na Aa la ca)).put (some 26) (zoneV Nb Ab lb cb)).put (some 27) (zoneV ((mm : Int) - 1) A3 (rlen mm RJ) c3)).put (some 29) (zoneV Na Aa la ca)).put (some 31) (zoneV Nb Ab lb cb)).put (some 32) (zoneV ((mm : Int) - 1) A6 (rlen mm RM) c6)).put (some 34) (zoneV Na Aa la ca)).put (some 36) (zoneV Nb Ab lb cb)).put (some 37) (.bool lq)) W) := Lib.hid (by
        intro W A3 c3 A6 c6 hST
        have CUR := Lib.hid hST
        clear hST
        simp only [Act.put, List.setIfInBounds_toArray, List.set_cons_zero, List.set_cons_succ]
        refine wpAnyH_ready (rs := [15, 16]) (by kernel_rfl) (by simp) ?_
        refine (AllReadyH.cons (o := ⟨some 7, _, _, _, _, _⟩) rfl (fun K hK => ?_) (AllReadyH.cons (o := ⟨some 8, _, _, _, _, _⟩) rfl (fun K hK => ?_) AllReadyH.nil))
        · go_simp
          refine hK.out _ _ (CUR.out.mka.s.conj) (fun hH => ?_)
          clear hK K hH
          try simp only [List.setIfInBounds_toArray, List.set_cons_zero, List.set_cons_succ]
          exact Y97.out _ _ A3 c3 A6 c6 CUR.out.mka
        · go_simp
          refine hK.out _ _ (CUR.out.mkb.s.conj) (fun hH => ?_)
          clear hK K hH
          try simp only [List.setIfInBounds_toArray, List.set_cons_zero, List.set_cons_succ]
          exact Y98.out _ _ A3 c3 A6 c6 CUR.out.mkb)
      simp only [Act.put, List.setIfInBounds_toArray, List.set_cons_zero, List.set_cons_succ] at Y9
      have Y878 : Hid (∀ (W : World) (g7 : Nat) (g8 : Nat) (A3 : Option Addr) (c3 : Nat) (A6 : Option Addr) (c6 : Nat), Nz.ST wo w.heap.size (w.heap.size + 1) (.int .i64 Na) (.slice Aa la ca) (.int .i64 Nb) (.slice Ab lb cb) mm mm RJ RM (some g7) (some g8) (some (A3, c3)) (some (A6, c6)) W → wpAnyH Tryd.prog .any ?zops4 ?zq4 ?zs4 4 #[true, true, true, true, true, true, true, true, true, true, true, true, true, true, false, true, true, false, false, false] ((((((((((({ tmps := ?zt4, defers := ?zd4 } : Act).put (some 24) (zoneV Na Aa la ca)).put (some 26) (zoneV Nb Ab lb cb)).put (some 27) (zoneV ((mm : Int) - 1) A3 (rlen mm RJ) c3)).put (some 29) (zoneV Na Aa la ca)).put (some 31) (zoneV Nb Ab lb cb)).put (some 32) (zoneV ((mm : Int) - 1) A6 (rlen mm RM) c6)).put (some 34) (zoneV Na Aa la ca)).put (some 36) (zoneV Nb Ab lb cb)).put (some 7) (.pointer (some ⟨g7, 0, none⟩))).put (some 8) (.pointer (some ⟨g8, 0, none⟩))) W) := Lib.hid (by
        intro W g7 g8 A3 c3 A6 c6 hST
        have CUR := Lib.hid hST
        clear hST
        simp only [Act.put, List.setIfInBounds_toArray, List.set_cons_zero, List.set_cons_succ]
        refine wpAnyH_ready (rs := [14]) (by kernel_rfl) (by simp) ?_
        refine (AllReadyH.cons (o := ⟨some 37, _, _, _, _, _⟩) rfl (fun K hK => ?_) AllReadyH.nil)
        · go_simp
          refine (Nz.st_any HLe.out CUR.out).mono ?_
          rintro e w1 ⟨rfl, hS⟩
          have CUS := Lib.hid hS
          clear hS
          go_wp2_with fail
          refine hK.out _ _ (CUS.out.s.conj) (fun hH => ?_)
          clear hK K hH
          try simp only [List.setIfInBounds_toArray, List.set_cons_zero, List.set_cons_succ]
          exact Y978.out _ g7 g8 A3 c3 A6 c6 CUS.out)
      simp only [Act.put, List.setIfInBounds_toArray, List.set_cons_zero, List.set_cons_succ] at Y878
      have Y87 : Hid (∀ (W : World) (g7 : Nat) (A3 : Option Addr) (c3 : Nat) (A6 : Option Addr) (c6 : Nat), Nz.ST wo w.heap.size (w.heap.size + 1) (.int .i64 Na) (.slice Aa la ca) (.int .i64 Nb) (.slice Ab lb cb) mm mm RJ RM (some g7) none (some (A3, c3)) (some (A6, c6)) W → wpAnyH Tryd.prog .any ?zops4 ?zq4 ?zs4 5 #[true, true, true, true, true, true, true, true, true, true, true, true, true, true, false, true, false, false, false, false] (((((((((({ tmps := ?zt4, defers := ?zd4 } : Act).put (some 24) (zoneV Na Aa la ca)).put (some 26) (zoneV Nb Ab lb cb)).put (some 27) (zoneV ((mm : Int) - 1) A3 (rlen mm RJ) c3)).put (some 29) (zoneV Na Aa la ca)).put (some 31) (zoneV Nb Ab lb cb)).put (some 32) (zoneV ((mm : Int) - 1) A6 (rlen mm RM) c6)).put (some 34) (zoneV Na Aa la ca)).put (some 36) (zoneV Nb Ab lb cb)).put (some 7) (.pointer (some ⟨g7, 0, none⟩))) W) := Lib.hid (by
        intro W g7 A3 c3 A6 c6 hST
        have CUR := Lib.hid hST
        clear hST
        simp only [Act.put, List.setIfInBounds_toArray, List.set_cons_zero, List.set_cons_succ]
        refine wpAnyH_ready (rs := [14, 16]) (by kernel_rfl) (by simp) ?_
        refine (AllReadyH.cons (o := ⟨some 37, _, _, _, _, _⟩) rfl (fun K hK => ?_) (AllReadyH.cons (o := ⟨some 8, _, _, _, _, _⟩) rfl (fun K hK => ?_) AllReadyH.nil))
        · go_simp
          refine (Nz.st_any HLe.out CUR.out).mono ?_
          rintro e w1 ⟨rfl, hS⟩
          have CUS := Lib.hid hS
          clear hS
          go_wp2_with fail
          refine hK.out _ _ (CUS.out.s.conj) (fun hH => ?_)
          clear hK K hH
          try simp only [List.setIfInBounds_toArray, List.set_cons_zero, List.set_cons_succ]
          exact Y97.out _ g7 A3 c3 A6 c6 CUS.out
        · go_simp
          refine hK.out _ _ (CUR.out.mkb.s.conj) (fun hH => ?_)
          clear hK K hH
          try simp only [List.setIfInBounds_toArray, List.set_cons_zero, List.set_cons_succ]
          exact Y878.out _ g7 _ A3 c3 A6 c6 CUR.out.mkb)
      simp only [Act.put, List.setIfInBounds_toArray, List.set_cons_zero, List.set_cons_succ] at Y87
      have Y88 : Hid (∀ (W : World) (g8 : Nat) (A3 : Option Addr) (c3 : Nat) (A6 : Option Addr) (c6 : Nat), Nz.ST wo w.heap.size (w.heap.size + 1) (.int .i64 Na) (.slice Aa la ca) (.int .i64 Nb) (.slice Ab lb cb) mm mm RJ RM none (some g8) (some (A3, c3)) (some (A6, c6)) W → wpAnyH Tryd.prog .any ?zops4 ?zq4 ?zs4 5 #[true, true, true, true, true, true, true, true, true, true, true, true, true, true, false, false, true, false, false, false] (((((((((({ tmps := ?zt4, defers := ?zd4 } : Act).put (some 24) (zoneV Na Aa la ca)).put (some 26) (zoneV Nb Ab lb cb)).put (some 27) (zoneV ((mm : Int) - 1) A3 (rlen mm RJ) c3)).put (some 29) (zoneV Na Aa la ca)).put (some 31) (zoneV Nb Ab lb cb)).put (some 32) (zoneV ((mm : Int) - 1) A6 (rlen mm RM) c6)).put (some 34) (zoneV Na Aa la ca)).put (some 36) (zoneV Nb Ab lb cb)).put (some 8) (.pointer (some ⟨g8, 0, none⟩))) W) := Lib.hid (by
        intro W g8 A3 c3 A6 c6 hST
        have CUR := Lib.hid hST
        clear hST
        simp only [Act.put, List.setIfInBounds_toArray, List.set_cons_zero, List.set_cons_succ]
        refine wpAnyH_ready (rs := [14, 15]) (by kernel_rfl) (by simp) ?_
        refine (AllReadyH.cons (o := ⟨some 37, _, _, _, _, _⟩) rfl (fun K hK => ?_) (AllReadyH.cons (o := ⟨some 7, _, _, _, _, _⟩) rfl (fun K hK => ?_) AllReadyH.nil))
        · go_simp
          refine (Nz.st_any HLe.out CUR.out).mono ?_
          rintro e w1 ⟨rfl, hS⟩
          have CUS := Lib.hid hS
          clear hS
          go_wp2_with fail
          refine hK.out _ _ (CUS.out.s.conj) (fun hH => ?_)
          clear hK K hH
          try simp only [List.setIfInBounds_toArray, List.set_cons_zero, List.set_cons_succ]
          exact Y98.out _ g8 A3 c3 A6 c6 CUS.out
        · go_simp
          refine hK.out _ _ (CUR.out.mka.s.conj) (fun hH => ?_)
          clear hK K hH
          try simp only [List.setIfInBounds_toArray, List.set_cons_zero, List.set_cons_succ]
          exact Y878.out _ _ g8 A3 c3 A6 c6 CUR.out.mka)
      simp only [Act.put, List.setIfInBounds_toArray, List.set_cons_zero, List.set_cons_succ] at Y88
      have Y8 : Hid (∀ (W : World) (A3 : Option Addr) (c3 : Nat) (A6 : Option Addr) (c6 : Nat), Nz.ST wo w.heap.size (w.heap.size + 1) (.int .i64 Na) (.slice Aa la ca) (.int .i64 Nb) (.slice Ab lb cb) mm mm RJ RM none none (some (A3, c3)) (some (A6, c6)) W → wpAnyH Tryd.prog .any ?zops4 ?zq4 ?zs4 6 #[true, true, true, true, true, true, true, true, true, true, true, true, true, true, false, false, false, false, false, false] ((((((((({ tmps := ?zt4, defers := ?zd4 } : Act).put (some 24) (zoneV Na Aa la ca)).put (some 26) (zoneV Nb Ab lb cb)).put (some 27) (zoneV ((mm : Int) - 1) A3 (rlen mm RJ) c3)).put (some 29) (zoneV Na Aa la ca)).put (some 31) (zoneV Nb Ab lb cb)).put (some 32) (zoneV ((mm : Int) - 1) A6 (rlen mm RM) c6)).put (some 34) (zoneV Na Aa la ca)).put (some 36) (zoneV Nb Ab lb cb)) W) := Lib.hid (by
        intro W A3 c3 A6 c6 hST
        have CUR := Lib.hid hST
        clear hST
        simp only [Act.put, List.setIfInBounds_toArray, List.set_cons_zero, List.set_cons_succ]
        refine wpAnyH_ready (rs := [14, 15, 16]) (by kernel_rfl) (by simp) ?_
        refine (AllReadyH.cons (o := ⟨some 37, _, _, _, _, _⟩) rfl (fun K hK => ?_) (AllReadyH.cons (o := ⟨some 7, _, _, _, _, _⟩) rfl (fun K hK => ?_) (AllReadyH.cons (o := ⟨some 8, _, _, _, _, _⟩) rfl (fun K hK => ?_) AllReadyH.nil)))
        · go_simp
          refine (Nz.st_any HLe.out CUR.out).mono ?_
          rintro e w1 ⟨rfl, hS⟩
          have CUS := Lib.hid hS
          clear hS
          go_wp2_with fail
          refine hK.out _ _ (CUS.out.s.conj) (fun hH => ?_)
          clear hK K hH
          try simp only [List.setIfInBounds_toArray, List.set_cons_zero, List.set_cons_succ]
          exact Y9.out _ A3 c3 A6 c6 CUS.out
        · go_simp
          refine hK.out _ _ (CUR.out.mka.s.conj) (fun hH => ?_)
          clear hK K hH
          try simp only [List.setIfInBounds_toArray, List.set_cons_zero, List.set_cons_succ]
          exact Y87.out _ _ A3 c3 A6 c6 CUR.out.mka
        · go_simp
          refine hK.out _ _ (CUR.out.mkb.s.conj) (fun hH => ?_)
          clear hK K hH
          try simp only [List.setIfInBounds_toArray, List.set_cons_zero, List.set_cons_succ]
          exact Y88.out _ _ A3 c3 A6 c6 CUR.out.mkb)
      simp only [Act.put, List.setIfInBounds_toArray, List.set_cons_zero, List.set_cons_succ] at Y8
      clear Y978 Y97 Y98 Y9
      have Y778 : Hid (∀ (W : World) (g7 : Nat) (g8 : Nat) (A3 : Option Addr) (c3 : Nat) (A6 : Option Addr) (c6 : Nat), Nz.ST wo w.heap.size (w.heap.size + 1) (.int .i64 Na) (.slice Aa la ca) (.int .i64 Nb) (.slice Ab lb cb) mm mm RJ RM (some g7) (some g8) (some (A3, c3)) (some (A6, c6)) W → wpAnyH Tryd.prog .any ?zops4 ?zq4 ?zs4 5 #[true, true, true, true, true, true, true, true, true, true, true, true, true, false, false, true, true, false, false, false] (((((((((({ tmps := ?zt4, defers := ?zd4 } : Act).put (some 24) (zoneV Na Aa la ca)).put (some 26) (zoneV Nb Ab lb cb)).put (some 27) (zoneV ((mm : Int) - 1) A3 (rlen mm RJ) c3)).put (some 29) (zoneV Na Aa la ca)).put (some 31) (zoneV Nb Ab lb cb)).put (some 32) (zoneV ((mm : Int) - 1) A6 (rlen mm RM) c6)).put (some 34) (zoneV Na Aa la ca)).put (some 7) (.pointer (some ⟨g7, 0, none⟩))).put (some 8) (.pointer (some ⟨g8, 0, none⟩))) W) := Lib.hid (by
        intro W g7 g8 A3 c3 A6 c6 hST
        have CUR := Lib.hid hST
        clear hST
        simp only [Act.put, List.setIfInBounds_toArray, List.set_cons_zero, List.set_cons_succ]
        refine wpAnyH_ready (rs := [13]) (by kernel_rfl) (by simp) ?_
        refine (AllReadyH.cons (o := ⟨some 36, _, _, _, _, _⟩) rfl (fun K hK => ?_) AllReadyH.nil)
        · go_simp
          refine (Nz.st_any (fun W _ => of_zone W _ _ _ _) CUR.out).mono ?_
          rintro e w1 ⟨rfl, hS⟩
          have CUS := Lib.hid hS
          clear hS
          go_wp2_with fail
          refine hK.out _ _ (CUS.out.s.conj) (fun hH => ?_)
          clear hK K hH
          try simp only [List.setIfInBounds_toArray, List.set_cons_zero, List.set_cons_succ]
          exact Y878.out _ g7 g8 A3 c3 A6 c6 CUS.out)
      simp only [Act.put, List.setIfInBounds_toArray, List.set_cons_zero, List.set_cons_succ] at Y778
      have Y77 : Hid (∀ (W : World) (g7 : Nat) (A3 : Option Addr) (c3 : Nat) (A6 : Option Addr) (c6 : Nat), Nz.ST wo w.heap.size (w.heap.size + 1) (.int .i64 Na) (.slice Aa la ca) (.int .i64 Nb) (.slice Ab lb cb) mm mm RJ RM (some g7) none (some (A3, c3)) (some (A6, c6)) W → wpAnyH Tryd.prog .any ?zops4 ?zq4 ?zs4 6 #[true, true, true, true, true, true, true, true, true, true, true, true, true, false, false, true, false, false, false, false] ((((((((({ tmps := ?zt4, defers := ?zd4 } : Act).put (some 24) (zoneV Na Aa la ca)).put (some 26) (zoneV Nb Ab lb cb)).put (some 27) (zoneV ((mm : Int) - 1) A3 (rlen mm RJ) c3)).put (some 29) (zoneV Na Aa la ca)).put (some 31) (zoneV Nb Ab lb cb)).put (some 32) (zoneV ((mm : Int) - 1) A6 (rlen mm RM) c6)).put (some 34) (zoneV Na Aa la ca)).put (some 7) (.pointer (some ⟨g7, 0, none⟩))) W) := Lib.hid (by
        intro W g7 A3 c3 A6 c6 hST
        have CUR := Lib.hid hST
        clear hST
        simp only [Act.put, List.setIfInBounds_toArray, List.set_cons_zero, List.set_cons_succ]
        refine wpAnyH_ready (rs := [13, 16]) (by kernel_rfl) (by simp) ?_
        refine (AllReadyH.cons (o := ⟨some 36, _, _, _, _, _⟩) rfl (fun K hK => ?_) (AllReadyH.cons (o := ⟨some 8, _, _, _, _, _⟩) rfl (fun K hK => ?_) AllReadyH.nil))
        · go_simp
          refine (Nz.st_any (fun W _ => of_zone W _ _ _ _) CUR.out).mono ?_
          rintro e w1 ⟨rfl, hS⟩
          have CUS := Lib.hid hS
          clear hS
          go_wp2_with fail
          refine hK.out _ _ (CUS.out.s.conj) (fun hH => ?_)
          clear hK K hH
          try simp only [List.setIfInBounds_toArray, List.set_cons_zero, List.set_cons_succ]
          exact Y87.out _ g7 A3 c3 A6 c6 CUS.out
        · go_simp
          refine hK.out _ _ (CUR.out.mkb.s.conj) (fun hH => ?_)
          clear hK K hH
          try simp only [List.setIfInBounds_toArray, List.set_cons_zero, List.set_cons_succ]
          exact Y778.out _ g7 _ A3 c3 A6 c6 CUR.out.mkb)
      simp only [Act.put, List.setIfInBounds_toArray, List.set_cons_zero, List.set_cons_succ] at Y77
      have Y78 : Hid (∀ (W : World) (g8 : Nat) (A3 : Option Addr) (c3 : Nat) (A6 : Option Addr) (c6 : Nat), Nz.ST wo w.heap.size (w.heap.size + 1) (.int .i64 Na) (.slice Aa la ca) (.int .i64 Nb) (.slice Ab lb cb) mm mm RJ RM none (some g8) (some (A3, c3)) (some (A6, c6)) W → wpAnyH Tryd.prog .any ?zops4 ?zq4 ?zs4 6 #[true, true, true, true, true, true, true, true, true, true, true, true, true, false, false, false, true, false, false, false] ((((((((({ tmps := ?zt4, defers := ?zd4 } : Act).put (some 24) (zoneV Na Aa la ca)).put (some 26) (zoneV Nb Ab lb cb)).put (some 27) (zoneV ((mm : Int) - 1) A3 (rlen mm RJ) c3)).put (some 29) (zoneV Na Aa la ca)).put (some 31) (zoneV Nb Ab lb cb)).put (some 32) (zoneV ((mm : Int) - 1) A6 (rlen mm RM) c6)).put (some 34) (zoneV Na Aa la ca)).put (some 8) (.pointer (some ⟨g8, 0, none⟩))) W) := Lib.hid (by
        intro W g8 A3 c3 A6 c6 hST
        have CUR := Lib.hid hST
        clear hST
        simp only [Act.put, List.setIfInBounds_toArray, List.set_cons_zero, List.set_cons_succ]
        refine wpAnyH_ready (rs := [13, 15]) (by kernel_rfl) (by simp) ?_
        refine (AllReadyH.cons (o := ⟨some 36, _, _, _, _, _⟩) rfl (fun K hK => ?_) (AllReadyH.cons (o := ⟨some 7, _, _, _, _, _⟩) rfl (fun K hK => ?_) AllReadyH.nil))
        · go_simp
          refine (Nz.st_any (fun W _ => of_zone W _ _ _ _) CUR.out).mono ?_
          rintro e w1 ⟨rfl, hS⟩
          have CUS := Lib.hid hS
          clear hS
          go_wp2_with fail
          refine hK.out _ _ (CUS.out.s.conj) (fun hH => ?_)
          clear hK K hH
          try simp only [List.setIfInBounds_toArray, List.set_cons_zero, List.set_cons_succ]
          exact Y88.out _ g8 A3 c3 A6 c6 CUS.out
        · go_simp
          refine hK.out _ _ (CUR.out.mka.s.conj) (fun hH => ?_)
          clear hK K hH
          try simp only [List.setIfInBounds_toArray, List.set_cons_zero, List.set_cons_succ]
          exact Y778.out _ _ g8 A3 c3 A6 c6 CUR.out.mka)
      simp only [Act.put, List.setIfInBounds_toArray, List.set_cons_zero, List.set_cons_succ] at Y78
      have Y7 : Hid (∀ (W : World) (A3 : Option Addr) (c3 : Nat) (A6 : Option Addr) (c6 : Nat), Nz.ST wo w.heap.size (w.heap.size + 1) (.int .i64 Na) (.slice Aa la ca) (.int .i64 Nb) (.slice Ab lb cb) mm mm RJ RM none none (some (A3, c3)) (some (A6, c6)) W → wpAnyH Tryd.prog .any ?zops4 ?zq4 ?zs4 7 #[true, true, true, true, true, true, true, true, true, true, true, true, true, false, false, false, false, false, false, false] (((((((({ tmps := ?zt4, defers := ?zd4 } : Act).put (some 24) (zoneV Na Aa la ca)).put (some 26) (zoneV Nb Ab lb cb)).put (some 27) (zoneV ((mm : Int) - 1) A3 (rlen mm RJ) c3)).put (some 29) (zoneV Na Aa la ca)).put (some 31) (zoneV Nb Ab lb cb)).put (some 32) (zoneV ((mm : Int) - 1) A6 (rlen mm RM) c6)).put (some 34) (zoneV Na Aa la ca)) W) := Lib.hid (by
        intro W A3 c3 A6 c6 hST
        have CUR := Lib.hid hST
        clear hST
        simp only [Act.put, List.setIfInBounds_toArray, List.set_cons_zero, List.set_cons_succ]
        refine wpAnyH_ready (rs := [13, 15, 16]) (by kernel_rfl) (by simp) ?_
        refine (AllReadyH.cons (o := ⟨some 36, _, _, _, _, _⟩) rfl (fun K hK => ?_) (AllReadyH.cons (o := ⟨some 7, _, _, _, _, _⟩) rfl (fun K hK => ?_) (AllReadyH.cons (o := ⟨some 8, _, _, _, _, _⟩) rfl (fun K hK => ?_) AllReadyH.nil)))
        · go_simp
          refine (Nz.st_any (fun W _ => of_zone W _ _ _ _) CUR.out).mono ?_
          rintro e w1 ⟨rfl, hS⟩
          have CUS := Lib.hid hS
          clear hS
          go_wp2_with fail
          refine hK.out _ _ (CUS.out.s.conj) (fun hH => ?_)
          clear hK K hH
          try simp only [List.setIfInBounds_toArray, List.set_cons_zero, List.set_cons_succ]
          exact Y8.out _ A3 c3 A6 c6 CUS.out
        · go_simp
          refine hK.out _ _ (CUR.out.mka.s.conj) (fun hH => ?_)
          clear hK K hH
          try simp only [List.setIfInBounds_toArray, List.set_cons_zero, List.set_cons_succ]
          exact Y77.out _ _ A3 c3 A6 c6 CUR.out.mka
        · go_simp
          refine hK.out _ _ (CUR.out.mkb.s.conj) (fun hH => ?_)
          clear hK K hH
          try simp only [List.setIfInBounds_toArray, List.set_cons_zero, List.set_cons_succ]
          exact Y78.out _ _ A3 c3 A6 c6 CUR.out.mkb)
      simp only [Act.put, List.setIfInBounds_toArray, List.set_cons_zero, List.set_cons_succ] at Y7
      clear Y878 Y87 Y88 Y8
      have Y678 : Hid (∀ (W : World) (g7 : Nat) (g8 : Nat) (A3 : Option Addr) (c3 : Nat) (A6 : Option Addr) (c6 : Nat), Nz.ST wo w.heap.size (w.heap.size + 1) (.int .i64 Na) (.slice Aa la ca) (.int .i64 Nb) (.slice Ab lb cb) mm mm RJ RM (some g7) (some g8) (some (A3, c3)) (some (A6, c6)) W → wpAnyH Tryd.prog .any ?zops4 ?zq4 ?zs4 6 #[true, true, true, true, true, true, true, true, true, true, true, false, true, false, false, true, true, false, false, false] ((((((((({ tmps := ?zt4, defers := ?zd4 } : Act).put (some 24) (zoneV Na Aa la ca)).put (some 26) (zoneV Nb Ab lb cb)).put (some 27) (zoneV ((mm : Int) - 1) A3 (rlen mm RJ) c3)).put (some 29) (zoneV Na Aa la ca)).put (some 31) (zoneV Nb Ab lb cb)).put (some 32) (zoneV ((mm : Int) - 1) A6 (rlen mm RM) c6)).put (some 7) (.pointer (some ⟨g7, 0, none⟩))).put (some 8) (.pointer (some ⟨g8, 0, none⟩))) W) := Lib.hid (by
        intro W g7 g8 A3 c3 A6 c6 hST
        have CUR := Lib.hid hST
        clear hST
        simp only [Act.put, List.setIfInBounds_toArray, List.set_cons_zero, List.set_cons_succ]
        refine wpAnyH_ready (rs := [11]) (by kernel_rfl) (by simp) ?_
        refine (AllReadyH.cons (o := ⟨some 34, _, _, _, _, _⟩) rfl (fun K hK => ?_) AllReadyH.nil)
        · go_simp
          refine (Nz.st_any (fun W _ => of_zone W _ _ _ _) CUR.out).mono ?_
          rintro e w1 ⟨rfl, hS⟩
          have CUS := Lib.hid hS
          clear hS
          go_wp2_with fail
          refine hK.out _ _ (CUS.out.s.conj) (fun hH => ?_)
          clear hK K hH
          try simp only [List.setIfInBounds_toArray, List.set_cons_zero, List.set_cons_succ]
          exact Y778.out _ g7 g8 A3 c3 A6 c6 CUS.out)
      simp only [Act.put, List.setIfInBounds_toArray, List.set_cons_zero, List.set_cons_succ] at Y678
      have Y67 : Hid (∀ (W : World) (g7 : Nat) (A3 : Option Addr) (c3 : Nat) (A6 : Option Addr) (c6 : Nat), Nz.ST wo w.heap.size (w.heap.size + 1) (.int .i64 Na) (.slice Aa la ca) (.int .i64 Nb) (.slice Ab lb cb) mm mm RJ RM (some g7) none (some (A3, c3)) (some (A6, c6)) W → wpAnyH Tryd.prog .any ?zops4 ?zq4 ?zs4 7 #[true, true, true, true, true, true, true, true, true, true, true, false, true, false, false, true, false, false, false, false] (((((((({ tmps := ?zt4, defers := ?zd4 } : Act).put (some 24) (zoneV Na Aa la ca)).put (some 26) (zoneV Nb Ab lb cb)).put (some 27) (zoneV ((mm : Int) - 1) A3 (rlen mm RJ) c3)).put (some 29) (zoneV Na Aa la ca)).put (some 31) (zoneV Nb Ab lb cb)).put (some 32) (zoneV ((mm : Int) - 1) A6 (rlen mm RM) c6)).put (some 7) (.pointer (some ⟨g7, 0, none⟩))) W) := Lib.hid (by
        intro W g7 A3 c3 A6 c6 hST
        have CUR := Lib.hid hST
        clear hST
        simp only [Act.put, List.setIfInBounds_toArray, List.set_cons_zero, List.set_cons_succ]
        refine wpAnyH_ready (rs := [11, 16]) (by kernel_rfl) (by simp) ?_
        refine (AllReadyH.cons (o := ⟨some 34, _, _, _, _, _⟩) rfl (fun K hK => ?_) (AllReadyH.cons (o := ⟨some 8, _, _, _, _, _⟩) rfl (fun K hK => ?_) AllReadyH.nil))
        · go_simp
          refine (Nz.st_any (fun W _ => of_zone W _ _ _ _) CUR.out).mono ?_
          rintro e w1 ⟨rfl, hS⟩
          have CUS := Lib.hid hS
          clear hS
          go_wp2_with fail
          refine hK.out _ _ (CUS.out.s.conj) (fun hH => ?_)
          clear hK K hH
          try simp only [List.setIfInBounds_toArray, List.set_cons_zero, List.set_cons_succ]
          exact Y77.out _ g7 A3 c3 A6 c6 CUS.out
        · go_simp
          refine hK.out _ _ (CUR.out.mkb.s.conj) (fun hH => ?_)
          clear hK K hH
          try simp only [List.setIfInBounds_toArray, List.set_cons_zero, List.set_cons_succ]
          exact Y678.out _ g7 _ A3 c3 A6 c6 CUR.out.mkb)
      simp only [Act.put, List.setIfInBounds_toArray, List.set_cons_zero, List.set_cons_succ] at Y67
      have Y68 : Hid (∀ (W : World) (g8 : Nat) (A3 : Option Addr) (c3 : Nat) (A6 : Option Addr) (c6 : Nat), Nz.ST wo w.heap.size (w.heap.size + 1) (.int .i64 Na) (.slice Aa la ca) (.int .i64 Nb) (.slice Ab lb cb) mm mm RJ RM none (some g8) (some (A3, c3)) (some (A6, c6)) W → wpAnyH Tryd.prog .any ?zops4 ?zq4 ?zs4 7 #[true, true, true, true, true, true, true, true, true, true, true, false, true, false, false, false, true, false, false, false] (((((((({ tmps := ?zt4, defers := ?zd4 } : Act).put (some 24) (zoneV Na Aa la ca)).put (some 26) (zoneV Nb Ab lb cb)).put (some 27) (zoneV ((mm : Int) - 1) A3 (rlen mm RJ) c3)).put (some 29) (zoneV Na Aa la ca)).put (some 31) (zoneV Nb Ab lb cb)).put (some 32) (zoneV ((mm : Int) - 1) A6 (rlen mm RM) c6)).put (some 8) (.pointer (some ⟨g8, 0, none⟩))) W) := Lib.hid (by
        intro W g8 A3 c3 A6 c6 hST
        have CUR := Lib.hid hST
        clear hST
        simp only [Act.put, List.setIfInBounds_toArray, List.set_cons_zero, List.set_cons_succ]
        refine wpAnyH_ready (rs := [11, 15]) (by kernel_rfl) (by simp) ?_
        refine (AllReadyH.cons (o := ⟨some 34, _, _, _, _, _⟩) rfl (fun K hK => ?_) (AllReadyH.cons (o := ⟨some 7, _, _, _, _, _⟩) rfl (fun K hK => ?_) AllReadyH.nil))
        · go_simp
          refine (Nz.st_any (fun W _ => of_zone W _ _ _ _) CUR.out).mono ?_
          rintro e w1 ⟨rfl, hS⟩
          have CUS := Lib.hid hS
          clear hS
          go_wp2_with fail
          refine hK.out _ _ (CUS.out.s.conj) (fun hH => ?_)
          clear hK K hH
          try simp only [List.setIfInBounds_toArray, List.set_cons_zero, List.set_cons_succ]
          exact Y78.out _ g8 A3 c3 A6 c6 CUS.out
        · go_simp
          refine hK.out _ _ (CUR.out.mka.s.conj) (fun hH => ?_)
          clear hK K hH
          try simp only [List.setIfInBounds_toArray, List.set_cons_zero, List.set_cons_succ]
          exact Y678.out _ _ g8 A3 c3 A6 c6 CUR.out.mka)
      simp only [Act.put, List.setIfInBounds_toArray, List.set_cons_zero, List.set_cons_succ] at Y68
      have Y6 : Hid (∀ (W : World) (A3 : Option Addr) (c3 : Nat) (A6 : Option Addr) (c6 : Nat), Nz.ST wo w.heap.size (w.heap.size + 1) (.int .i64 Na) (.slice Aa la ca) (.int .i64 Nb) (.slice Ab lb cb) mm mm RJ RM none none (some (A3, c3)) (some (A6, c6)) W → wpAnyH Tryd.prog .any ?zops4 ?zq4 ?zs4 8 #[true, true, true, true, true, true, true, true, true, true, true, false, true, false, false, false, false, false, false, false] ((((((({ tmps := ?zt4, defers := ?zd4 } : Act).put (some 24) (zoneV Na Aa la ca)).put (some 26) (zoneV Nb Ab lb cb)).put (some 27) (zoneV ((mm : Int) - 1) A3 (rlen mm RJ) c3)).put (some 29) (zoneV Na Aa la ca)).put (some 31) (zoneV Nb Ab lb cb)).put (some 32) (zoneV ((mm : Int) - 1) A6 (rlen mm RM) c6)) W) := Lib.hid (by
        intro W A3 c3 A6 c6 hST
        have CUR := Lib.hid hST
        clear hST
        simp only [Act.put, List.setIfInBounds_toArray, List.set_cons_zero, List.set_cons_succ]
        refine wpAnyH_ready (rs := [11, 15, 16]) (by kernel_rfl) (by simp) ?_
        refine (AllReadyH.cons (o := ⟨some 34, _, _, _, _, _⟩) rfl (fun K hK => ?_) (AllReadyH.cons (o := ⟨some 7, _, _, _, _, _⟩) rfl (fun K hK => ?_) (AllReadyH.cons (o := ⟨some 8, _, _, _, _, _⟩) rfl (fun K hK => ?_) AllReadyH.nil)))
        · go_simp
          refine (Nz.st_any (fun W _ => of_zone W _ _ _ _) CUR.out).mono ?_
          rintro e w1 ⟨rfl, hS⟩
          have CUS := Lib.hid hS
          clear hS
          go_wp2_with fail
          refine hK.out _ _ (CUS.out.s.conj) (fun hH => ?_)
          clear hK K hH
          try simp only [List.setIfInBounds_toArray, List.set_cons_zero, List.set_cons_succ]
          exact Y7.out _ A3 c3 A6 c6 CUS.out
        · go_simp
          refine hK.out _ _ (CUR.out.mka.s.conj) (fun hH => ?_)
          clear hK K hH
          try simp only [List.setIfInBounds_toArray, List.set_cons_zero, List.set_cons_succ]
          exact Y67.out _ _ A3 c3 A6 c6 CUR.out.mka
        · go_simp
          refine hK.out _ _ (CUR.out.mkb.s.conj) (fun hH => ?_)
          clear hK K hH
          try simp only [List.setIfInBounds_toArray, List.set_cons_zero, List.set_cons_succ]
          exact Y68.out _ _ A3 c3 A6 c6 CUR.out.mkb)
      simp only [Act.put, List.setIfInBounds_toArray, List.set_cons_zero, List.set_cons_succ] at Y6
      clear Y778 Y77 Y78 Y7
      have Y578 : Hid (∀ (W : World) (g7 : Nat) (g8 : Nat) (A3 : Option Addr) (c3 : Nat), Nz.ST wo w.heap.size (w.heap.size + 1) (.int .i64 Na) (.slice Aa la ca) (.int .i64 Nb) (.slice Ab lb cb) mm mm RJ RM (some g7) (some g8) (some (A3, c3)) none W → wpAnyH Tryd.prog .any ?zops4 ?zq4 ?zs4 7 #[true, true, true, true, true, true, true, true, true, false, true, false, true, false, false, true, true, false, false, false] (((((((({ tmps := ?zt4, defers := ?zd4 } : Act).put (some 24) (zoneV Na Aa la ca)).put (some 26) (zoneV Nb Ab lb cb)).put (some 27) (zoneV ((mm : Int) - 1) A3 (rlen mm RJ) c3)).put (some 29) (zoneV Na Aa la ca)).put (some 31) (zoneV Nb Ab lb cb)).put (some 7) (.pointer (some ⟨g7, 0, none⟩))).put (some 8) (.pointer (some ⟨g8, 0, none⟩))) W) := Lib.hid (by
        intro W g7 g8 A3 c3 hST
        have CUR := Lib.hid hST
        clear hST
        simp only [Act.put, List.setIfInBounds_toArray, List.set_cons_zero, List.set_cons_succ]
        refine wpAnyH_ready (rs := [9]) (by kernel_rfl) (by simp) ?_
        refine (AllReadyH.cons (o := ⟨some 32, _, _, _, _, _⟩) rfl (fun K hK => ?_) AllReadyH.nil)
        · go_simp
          refine (Nz.st_two HMt.out CUR.out).mono ?_
          rintro e w1 ⟨A6, c6, rfl, hS⟩
          have CUS := Lib.hid hS
          clear hS
          go_wp2_with fail
          refine hK.out _ _ (CUS.out.s.conj) (fun hH => ?_)
          clear hK K hH
          try simp only [List.setIfInBounds_toArray, List.set_cons_zero, List.set_cons_succ]
          exact Y678.out _ g7 g8 A3 c3 A6 c6 CUS.out)
      simp only [Act.put, List.setIfInBounds_toArray, List.set_cons_zero, List.set_cons_succ] at Y578
      have Y57 : Hid (∀ (W : World) (g7 : Nat) (A3 : Option Addr) (c3 : Nat), Nz.ST wo w.heap.size (w.heap.size + 1) (.int .i64 Na) (.slice Aa la ca) (.int .i64 Nb) (.slice Ab lb cb) mm mm RJ RM (some g7) none (some (A3, c3)) none W → wpAnyH Tryd.prog .any ?zops4 ?zq4 ?zs4 8 #[true, true, true, true, true, true, true, true, true, false, true, false, true, false, false, true, false, false, false, false] ((((((({ tmps := ?zt4, defers := ?zd4 } : Act).put (some 24) (zoneV Na Aa la ca)).put (some 26) (zoneV Nb Ab lb cb)).put (some 27) (zoneV ((mm : Int) - 1) A3 (rlen mm RJ) c3)).put (some 29) (zoneV Na Aa la ca)).put (some 31) (zoneV Nb Ab lb cb)).put (some 7) (.pointer (some ⟨g7, 0, none⟩))) W) := Lib.hid (by
        intro W g7 A3 c3 hST
        have CUR := Lib.hid hST
        clear hST
        simp only [Act.put, List.setIfInBounds_toArray, List.set_cons_zero, List.set_cons_succ]
        refine wpAnyH_ready (rs := [9, 16]) (by kernel_rfl) (by simp) ?_
        refine (AllReadyH.cons (o := ⟨some 32, _, _, _, _, _⟩) rfl (fun K hK => ?_) (AllReadyH.cons (o := ⟨some 8, _, _, _, _, _⟩) rfl (fun K hK => ?_) AllReadyH.nil))
        · go_simp
          refine (Nz.st_two HMt.out CUR.out).mono ?_
          rintro e w1 ⟨A6, c6, rfl, hS⟩
          have CUS := Lib.hid hS
          clear hS
          go_wp2_with fail
          refine hK.out _ _ (CUS.out.s.conj) (fun hH => ?_)
          clear hK K hH
          try simp only [List.setIfInBounds_toArray, List.set_cons_zero, List.set_cons_succ]
          exact Y67.out _ g7 A3 c3 A6 c6 CUS.out
        · go_simp
          refine hK.out _ _ (CUR.out.mkb.s.conj) (fun hH => ?_)
          clear hK K hH
          try simp only [List.setIfInBounds_toArray, List.set_cons_zero, List.set_cons_succ]
          exact Y578.out _ g7 _ A3 c3 CUR.out.mkb)
      simp only [Act.put, List.setIfInBounds_toArray, List.set_cons_zero, List.set_cons_succ] at Y57
      have Y58 : Hid (∀ (W : World) (g8 : Nat) (A3 : Option Addr) (c3 : Nat), Nz.ST wo w.heap.size (w.heap.size + 1) (.int .i64 Na) (.slice Aa la ca) (.int .i64 Nb) (.slice Ab lb cb) mm mm RJ RM none (some g8) (some (A3, c3)) none W → wpAnyH Tryd.prog .any ?zops4 ?zq4 ?zs4 8 #[true, true, true, true, true, true, true, true, true, false, true, false, true, false, false, false, true, false, false, false] ((((((({ tmps := ?zt4, defers := ?zd4 } : Act).put (some 24) (zoneV Na Aa la ca)).put (some 26) (zoneV Nb Ab lb cb)).put (some 27) (zoneV ((mm : Int) - 1) A3 (rlen mm RJ) c3)).put (some 29) (zoneV Na Aa la ca)).put (some 31) (zoneV Nb Ab lb cb)).put (some 8) (.pointer (some ⟨g8, 0, none⟩))) W) := Lib.hid (by
        intro W g8 A3 c3 hST
        have CUR := Lib.hid hST
        clear hST
        simp only [Act.put, List.setIfInBounds_toArray, List.set_cons_zero, List.set_cons_succ]
        refine wpAnyH_ready (rs := [9, 15]) (by kernel_rfl) (by simp) ?_
        refine (AllReadyH.cons (o := ⟨some 32, _, _, _, _, _⟩) rfl (fun K hK => ?_) (AllReadyH.cons (o := ⟨some 7, _, _, _, _, _⟩) rfl (fun K hK => ?_) AllReadyH.nil))
        · go_simp
          refine (Nz.st_two HMt.out CUR.out).mono ?_
          rintro e w1 ⟨A6, c6, rfl, hS⟩
          have CUS := Lib.hid hS
          clear hS
          go_wp2_with fail
          refine hK.out _ _ (CUS.out.s.conj) (fun hH => ?_)
          clear hK K hH
          try simp only [List.setIfInBounds_toArray, List.set_cons_zero, List.set_cons_succ]
          exact Y68.out _ g8 A3 c3 A6 c6 CUS.out
        · go_simp
          refine hK.out _ _ (CUR.out.mka.s.conj) (fun hH => ?_)
          clear hK K hH
          try simp only [List.setIfInBounds_toArray, List.set_cons_zero, List.set_cons_succ]
          exact Y578.out _ _ g8 A3 c3 CUR.out.mka)
      simp only [Act.put, List.setIfInBounds_toArray, List.set_cons_zero, List.set_cons_succ] at Y58
      have Y5 : Hid (∀ (W : World) (A3 : Option Addr) (c3 : Nat), Nz.ST wo w.heap.size (w.heap.size + 1) (.int .i64 Na) (.slice Aa la ca) (.int .i64 Nb) (.slice Ab lb cb) mm mm RJ RM none none (some (A3, c3)) none W → wpAnyH Tryd.prog .any ?zops4 ?zq4 ?zs4 9 #[true, true, true, true, true, true, true, true, true, false, true, false, true, false, false, false, false, false, false, false] (((((({ tmps := ?zt4, defers := ?zd4 } : Act).put (some 24) (zoneV Na Aa la ca)).put (some 26) (zoneV Nb Ab lb cb)).put (some 27) (zoneV ((mm : Int) - 1) A3 (rlen mm RJ) c3)).put (some 29) (zoneV Na Aa la ca)).put (some 31) (zoneV Nb Ab lb cb)) W) := Lib.hid (by
        intro W A3 c3 hST
        have CUR := Lib.hid hST
        clear hST
        simp only [Act.put, List.setIfInBounds_toArray, List.set_cons_zero, List.set_cons_succ]
        refine wpAnyH_ready (rs := [9, 15, 16]) (by kernel_rfl) (by simp) ?_
        refine (AllReadyH.cons (o := ⟨some 32, _, _, _, _, _⟩) rfl (fun K hK => ?_) (AllReadyH.cons (o := ⟨some 7, _, _, _, _, _⟩) rfl (fun K hK => ?_) (AllReadyH.cons (o := ⟨some 8, _, _, _, _, _⟩) rfl (fun K hK => ?_) AllReadyH.nil)))
        · go_simp
          refine (Nz.st_two HMt.out CUR.out).mono ?_
          rintro e w1 ⟨A6, c6, rfl, hS⟩
          have CUS := Lib.hid hS
          clear hS
          go_wp2_with fail
          refine hK.out _ _ (CUS.out.s.conj) (fun hH => ?_)
          clear hK K hH
          try simp only [List.setIfInBounds_toArray, List.set_cons_zero, List.set_cons_succ]
          exact Y6.out _ A3 c3 A6 c6 CUS.out
        · go_simp
          refine hK.out _ _ (CUR.out.mka.s.conj) (fun hH => ?_)
          clear hK K hH
          try simp only [List.setIfInBounds_toArray, List.set_cons_zero, List.set_cons_succ]
          exact Y57.out _ _ A3 c3 CUR.out.mka
        · go_simp
          refine hK.out _ _ (CUR.out.mkb.s.conj) (fun hH => ?_)
          clear hK K hH
          try simp only [List.setIfInBounds_toArray, List.set_cons_zero, List.set_cons_succ]
          exact Y58.out _ _ A3 c3 CUR.out.mkb)
      simp only [Act.put, List.setIfInBounds_toArray, List.set_cons_zero, List.set_cons_succ] at Y5
      clear Y678 Y67 Y68 Y6
      have Y478 : Hid (∀ (W : World) (g7 : Nat) (g8 : Nat) (A3 : Option Addr) (c3 : Nat), Nz.ST wo w.heap.size (w.heap.size + 1) (.int .i64 Na) (.slice Aa la ca) (.int .i64 Nb) (.slice Ab lb cb) mm mm RJ RM (some g7) (some g8) (some (A3, c3)) none W → wpAnyH Tryd.prog .any ?zops4 ?zq4 ?zs4 8 #[true, true, true, true, true, true, true, true, false, false, true, false, true, false, false, true, true, false, false, false] ((((((({ tmps := ?zt4, defers := ?zd4 } : Act).put (some 24) (zoneV Na Aa la ca)).put (some 26) (zoneV Nb Ab lb cb)).put (some 27) (zoneV ((mm : Int) - 1) A3 (rlen mm RJ) c3)).put (some 29) (zoneV Na Aa la ca)).put (some 7) (.pointer (some ⟨g7, 0, none⟩))).put (some 8) (.pointer (some ⟨g8, 0, none⟩))) W) := Lib.hid (by
        intro W g7 g8 A3 c3 hST
        have CUR := Lib.hid hST
        clear hST
        simp only [Act.put, List.setIfInBounds_toArray, List.set_cons_zero, List.set_cons_succ]
        refine wpAnyH_ready (rs := [8]) (by kernel_rfl) (by simp) ?_
        refine (AllReadyH.cons (o := ⟨some 31, _, _, _, _, _⟩) rfl (fun K hK => ?_) AllReadyH.nil)
        · go_simp
          refine (Nz.st_any (fun W _ => of_zone W _ _ _ _) CUR.out).mono ?_
          rintro e w1 ⟨rfl, hS⟩
          have CUS := Lib.hid hS
          clear hS
          go_wp2_with fail
          refine hK.out _ _ (CUS.out.s.conj) (fun hH => ?_)
          clear hK K hH
          try simp only [List.setIfInBounds_toArray, List.set_cons_zero, List.set_cons_succ]
          exact Y578.out _ g7 g8 A3 c3 CUS.out)
      simp only [Act.put, List.setIfInBounds_toArray, List.set_cons_zero, List.set_cons_succ] at Y478
      have Y47 : Hid (∀ (W : World) (g7 : Nat) (A3 : Option Addr) (c3 : Nat), Nz.ST wo w.heap.size (w.heap.size + 1) (.int .i64 Na) (.slice Aa la ca) (.int .i64 Nb) (.slice Ab lb cb) mm mm RJ RM (some g7) none (some (A3, c3)) none W → wpAnyH Tryd.prog .any ?zops4 ?zq4 ?zs4 9 #[true, true, true, true, true, true, true, true, false, false, true, false, true, false, false, true, false, false, false, false] (((((({ tmps := ?zt4, defers := ?zd4 } : Act).put (some 24) (zoneV Na Aa la ca)).put (some 26) (zoneV Nb Ab lb cb)).put (some 27) (zoneV ((mm : Int) - 1) A3 (rlen mm RJ) c3)).put (some 29) (zoneV Na Aa la ca)).put (some 7) (.pointer (some ⟨g7, 0, none⟩))) W) := Lib.hid (by
        intro W g7 A3 c3 hST
        have CUR := Lib.hid hST
        clear hST
        simp only [Act.put, List.setIfInBounds_toArray, List.set_cons_zero, List.set_cons_succ]
        refine wpAnyH_ready (rs := [8, 16]) (by kernel_rfl) (by simp) ?_
        refine (AllReadyH.cons (o := ⟨some 31, _, _, _, _, _⟩) rfl (fun K hK => ?_) (AllReadyH.cons (o := ⟨some 8, _, _, _, _, _⟩) rfl (fun K hK => ?_) AllReadyH.nil))
        · go_simp
          refine (Nz.st_any (fun W _ => of_zone W _ _ _ _) CUR.out).mono ?_
          rintro e w1 ⟨rfl, hS⟩
          have CUS := Lib.hid hS
          clear hS
          go_wp2_with fail
          refine hK.out _ _ (CUS.out.s.conj) (fun hH => ?_)
          clear hK K hH
          try simp only [List.setIfInBounds_toArray, List.set_cons_zero, List.set_cons_succ]
          exact Y57.out _ g7 A3 c3 CUS.out
        · go_simp
          refine hK.out _ _ (CUR.out.mkb.s.conj) (fun hH => ?_)
          clear hK K hH
          try simp only [List.setIfInBounds_toArray, List.set_cons_zero, List.set_cons_succ]
          exact Y478.out _ g7 _ A3 c3 CUR.out.mkb)
      simp only [Act.put, List.setIfInBounds_toArray, List.set_cons_zero, List.set_cons_succ] at Y47
      have Y48 : Hid (∀ (W : World) (g8 : Nat) (A3 : Option Addr) (c3 : Nat), Nz.ST wo w.heap.size (w.heap.size + 1) (.int .i64 Na) (.slice Aa la ca) (.int .i64 Nb) (.slice Ab lb cb) mm mm RJ RM none (some g8) (some (A3, c3)) none W → wpAnyH Tryd.prog .any ?zops4 ?zq4 ?zs4 9 #[true, true, true, true, true, true, true, true, false, false, true, false, true, false, false, false, true, false, false, false] (((((({ tmps := ?zt4, defers := ?zd4 } : Act).put (some 24) (zoneV Na Aa la ca)).put (some 26) (zoneV Nb Ab lb cb)).put (some 27) (zoneV ((mm : Int) - 1) A3 (rlen mm RJ) c3)).put (some 29) (zoneV Na Aa la ca)).put (some 8) (.pointer (some ⟨g8, 0, none⟩))) W) := Lib.hid (by
        intro W g8 A3 c3 hST
        have CUR := Lib.hid hST
        clear hST
        simp only [Act.put, List.setIfInBounds_toArray, List.set_cons_zero, List.set_cons_succ]
        refine wpAnyH_ready (rs := [8, 15]) (by kernel_rfl) (by simp) ?_
        refine (AllReadyH.cons (o := ⟨some 31, _, _, _, _, _⟩) rfl (fun K hK => ?_) (AllReadyH.cons (o := ⟨some 7, _, _, _, _, _⟩) rfl (fun K hK => ?_) AllReadyH.nil))
        · go_simp
          refine (Nz.st_any (fun W _ => of_zone W _ _ _ _) CUR.out).mono ?_
          rintro e w1 ⟨rfl, hS⟩
          have CUS := Lib.hid hS
          clear hS
          go_wp2_with fail
          refine hK.out _ _ (CUS.out.s.conj) (fun hH => ?_)
          clear hK K hH
          try simp only [List.setIfInBounds_toArray, List.set_cons_zero, List.set_cons_succ]
          exact Y58.out _ g8 A3 c3 CUS.out
        · go_simp
          refine hK.out _ _ (CUR.out.mka.s.conj) (fun hH => ?_)
          clear hK K hH
          try simp only [List.setIfInBounds_toArray, List.set_cons_zero, List.set_cons_succ]
          exact Y478.out _ _ g8 A3 c3 CUR.out.mka)
      simp only [Act.put, List.setIfInBounds_toArray, List.set_cons_zero, List.set_cons_succ] at Y48
      have Y4 : Hid (∀ (W : World) (A3 : Option Addr) (c3 : Nat), Nz.ST wo w.heap.size (w.heap.size + 1) (.int .i64 Na) (.slice Aa la ca) (.int .i64 Nb) (.slice Ab lb cb) mm mm RJ RM none none (some (A3, c3)) none W → wpAnyH Tryd.prog .any ?zops4 ?zq4 ?zs4 10 #[true, true, true, true, true, true, true, true, false, false, true, false, true, false, false, false, false, false, false, false] ((((({ tmps := ?zt4, defers := ?zd4 } : Act).put (some 24) (zoneV Na Aa la ca)).put (some 26) (zoneV Nb Ab lb cb)).put (some 27) (zoneV ((mm : Int) - 1) A3 (rlen mm RJ) c3)).put (some 29) (zoneV Na Aa la ca)) W) := Lib.hid (by
        intro W A3 c3 hST
        have CUR := Lib.hid hST
        clear hST
        simp only [Act.put, List.setIfInBounds_toArray, List.set_cons_zero, List.set_cons_succ]
        refine wpAnyH_ready (rs := [8, 15, 16]) (by kernel_rfl) (by simp) ?_
        refine (AllReadyH.cons (o := ⟨some 31, _, _, _, _, _⟩) rfl (fun K hK => ?_) (AllReadyH.cons (o := ⟨some 7, _, _, _, _, _⟩) rfl (fun K hK => ?_) (AllReadyH.cons (o := ⟨some 8, _, _, _, _, _⟩) rfl (fun K hK => ?_) AllReadyH.nil)))
        · go_simp
          refine (Nz.st_any (fun W _ => of_zone W _ _ _ _) CUR.out).mono ?_
          rintro e w1 ⟨rfl, hS⟩
          have CUS := Lib.hid hS
          clear hS
          go_wp2_with fail
          refine hK.out _ _ (CUS.out.s.conj) (fun hH => ?_)
          clear hK K hH
          try simp only [List.setIfInBounds_toArray, List.set_cons_zero, List.set_cons_succ]
          exact Y5.out _ A3 c3 CUS.out
        · go_simp
          refine hK.out _ _ (CUR.out.mka.s.conj) (fun hH => ?_)
          clear hK K hH
          try simp only [List.setIfInBounds_toArray, List.set_cons_zero, List.set_cons_succ]
          exact Y47.out _ _ A3 c3 CUR.out.mka
        · go_simp
          refine hK.out _ _ (CUR.out.mkb.s.conj) (fun hH => ?_)
          clear hK K hH
          try simp only [List.setIfInBounds_toArray, List.set_cons_zero, List.set_cons_succ]
          exact Y48.out _ _ A3 c3 CUR.out.mkb)
      simp only [Act.put, List.setIfInBounds_toArray, List.set_cons_zero, List.set_cons_succ] at Y4
      clear Y578 Y57 Y58 Y5
      have Y378 : Hid (∀ (W : World) (g7 : Nat) (g8 : Nat) (A3 : Option Addr) (c3 : Nat), Nz.ST wo w.heap.size (w.heap.size + 1) (.int .i64 Na) (.slice Aa la ca) (.int .i64 Nb) (.slice Ab lb cb) mm mm RJ RM (some g7) (some g8) (some (A3, c3)) none W → wpAnyH Tryd.prog .any ?zops4 ?zq4 ?zs4 9 #[true, true, true, true, true, true, false, true, false, false, true, false, true, false, false, true, true, false, false, false] (((((({ tmps := ?zt4, defers := ?zd4 } : Act).put (some 24) (zoneV Na Aa la ca)).put (some 26) (zoneV Nb Ab lb cb)).put (some 27) (zoneV ((mm : Int) - 1) A3 (rlen mm RJ) c3)).put (some 7) (.pointer (some ⟨g7, 0, none⟩))).put (some 8) (.pointer (some ⟨g8, 0, none⟩))) W) := Lib.hid (by
        intro W g7 g8 A3 c3 hST
        have CUR := Lib.hid hST
        clear hST
        simp only [Act.put, List.setIfInBounds_toArray, List.set_cons_zero, List.set_cons_succ]
        refine wpAnyH_ready (rs := [6]) (by kernel_rfl) (by simp) ?_
        refine (AllReadyH.cons (o := ⟨some 29, _, _, _, _, _⟩) rfl (fun K hK => ?_) AllReadyH.nil)
        · go_simp
          refine (Nz.st_any (fun W _ => of_zone W _ _ _ _) CUR.out).mono ?_
          rintro e w1 ⟨rfl, hS⟩
          have CUS := Lib.hid hS
          clear hS
          go_wp2_with fail
          refine hK.out _ _ (CUS.out.s.conj) (fun hH => ?_)
          clear hK K hH
          try simp only [List.setIfInBounds_toArray, List.set_cons_zero, List.set_cons_succ]
          exact Y478.out _ g7 g8 A3 c3 CUS.out)
      simp only [Act.put, List.setIfInBounds_toArray, List.set_cons_zero, List.set_cons_succ] at Y378
      have Y37 : Hid (∀ (W : World) (g7 : Nat) (A3 : Option Addr) (c3 : Nat), Nz.ST wo w.heap.size (w.heap.size + 1) (.int .i64 Na) (.slice Aa la ca) (.int .i64 Nb) (.slice Ab lb cb) mm mm RJ RM (some g7) none (some (A3, c3)) none W → wpAnyH Tryd.prog .any ?zops4 ?zq4 ?zs4 10 #[true, true, true, true, true, true, false, true, false, false, true, false, true, false, false, true, false, false, false, false] ((((({ tmps := ?zt4, defers := ?zd4 } : Act).put (some 24) (zoneV Na Aa la ca)).put (some 26) (zoneV Nb Ab lb cb)).put (some 27) (zoneV ((mm : Int) - 1) A3 (rlen mm RJ) c3)).put (some 7) (.pointer (some ⟨g7, 0, none⟩))) W) := Lib.hid (by
        intro W g7 A3 c3 hST
        have CUR := Lib.hid hST
        clear hST
        simp only [Act.put, List.setIfInBounds_toArray, List.set_cons_zero, List.set_cons_succ]
        refine wpAnyH_ready (rs := [6, 16]) (by kernel_rfl) (by simp) ?_
        refine (AllReadyH.cons (o := ⟨some 29, _, _, _, _, _⟩) rfl (fun K hK => ?_) (AllReadyH.cons (o := ⟨some 8, _, _, _, _, _⟩) rfl (fun K hK => ?_) AllReadyH.nil))
        · go_simp
          refine (Nz.st_any (fun W _ => of_zone W _ _ _ _) CUR.out).mono ?_
          rintro e w1 ⟨rfl, hS⟩
          have CUS := Lib.hid hS
          clear hS
          go_wp2_with fail
          refine hK.out _ _ (CUS.out.s.conj) (fun hH => ?_)
          clear hK K hH
          try simp only [List.setIfInBounds_toArray, List.set_cons_zero, List.set_cons_succ]
          exact Y47.out _ g7 A3 c3 CUS.out
        · go_simp
          refine hK.out _ _ (CUR.out.mkb.s.conj) (fun hH => ?_)
          clear hK K hH
          try simp only [List.setIfInBounds_toArray, List.set_cons_zero, List.set_cons_succ]
          exact Y378.out _ g7 _ A3 c3 CUR.out.mkb)
      simp only [Act.put, List.setIfInBounds_toArray, List.set_cons_zero, List.set_cons_succ] at Y37
      have Y38 : Hid (∀ (W : World) (g8 : Nat) (A3 : Option Addr) (c3 : Nat), Nz.ST wo w.heap.size (w.heap.size + 1) (.int .i64 Na) (.slice Aa la ca) (.int .i64 Nb) (.slice Ab lb cb) mm mm RJ RM none (some g8) (some (A3, c3)) none W → wpAnyH Tryd.prog .any ?zops4 ?zq4 ?zs4 10 #[true, true, true, true, true, true, false, true, false, false, true, false, true, false, false, false, true, false, false, false] ((((({ tmps := ?zt4, defers := ?zd4 } : Act).put (some 24) (zoneV Na Aa la ca)).put (some 26) (zoneV Nb Ab lb cb)).put (some 27) (zoneV ((mm : Int) - 1) A3 (rlen mm RJ) c3)).put (some 8) (.pointer (some ⟨g8, 0, none⟩))) W) := Lib.hid (by
        intro W g8 A3 c3 hST
        have CUR := Lib.hid hST
        clear hST
        simp only [Act.put, List.setIfInBounds_toArray, List.set_cons_zero, List.set_cons_succ]
        refine wpAnyH_ready (rs := [6, 15]) (by kernel_rfl) (by simp) ?_
        refine (AllReadyH.cons (o := ⟨some 29, _, _, _, _, _⟩) rfl (fun K hK => ?_) (AllReadyH.cons (o := ⟨some 7, _, _, _, _, _⟩) rfl (fun K hK => ?_) AllReadyH.nil))
        · go_simp
          refine (Nz.st_any (fun W _ => of_zone W _ _ _ _) CUR.out).mono ?_
          rintro e w1 ⟨rfl, hS⟩
          have CUS := Lib.hid hS
          clear hS
          go_wp2_with fail
          refine hK.out _ _ (CUS.out.s.conj) (fun hH => ?_)
          clear hK K hH
          try simp only [List.setIfInBounds_toArray, List.set_cons_zero, List.set_cons_succ]
          exact Y48.out _ g8 A3 c3 CUS.out
        · go_simp
          refine hK.out _ _ (CUR.out.mka.s.conj) (fun hH => ?_)
          clear hK K hH
          try simp only [List.setIfInBounds_toArray, List.set_cons_zero, List.set_cons_succ]
          exact Y378.out _ _ g8 A3 c3 CUR.out.mka)
      simp only [Act.put, List.setIfInBounds_toArray, List.set_cons_zero, List.set_cons_succ] at Y38
      have Y3 : Hid (∀ (W : World) (A3 : Option Addr) (c3 : Nat), Nz.ST wo w.heap.size (w.heap.size + 1) (.int .i64 Na) (.slice Aa la ca) (.int .i64 Nb) (.slice Ab lb cb) mm mm RJ RM none none (some (A3, c3)) none W → wpAnyH Tryd.prog .any ?zops4 ?zq4 ?zs4 11 #[true, true, true, true, true, true, false, true, false, false, true, false, true, false, false, false, false, false, false, false] (((({ tmps := ?zt4, defers := ?zd4 } : Act).put (some 24) (zoneV Na Aa la ca)).put (some 26) (zoneV Nb Ab lb cb)).put (some 27) (zoneV ((mm : Int) - 1) A3 (rlen mm RJ) c3)) W) := Lib.hid (by
        intro W A3 c3 hST
        have CUR := Lib.hid hST
        clear hST
        simp only [Act.put, List.setIfInBounds_toArray, List.set_cons_zero, List.set_cons_succ]
        refine wpAnyH_ready (rs := [6, 15, 16]) (by kernel_rfl) (by simp) ?_
        refine (AllReadyH.cons (o := ⟨some 29, _, _, _, _, _⟩) rfl (fun K hK => ?_) (AllReadyH.cons (o := ⟨some 7, _, _, _, _, _⟩) rfl (fun K hK => ?_) (AllReadyH.cons (o := ⟨some 8, _, _, _, _, _⟩) rfl (fun K hK => ?_) AllReadyH.nil)))
        · go_simp
          refine (Nz.st_any (fun W _ => of_zone W _ _ _ _) CUR.out).mono ?_
          rintro e w1 ⟨rfl, hS⟩
          have CUS := Lib.hid hS
          clear hS
          go_wp2_with fail
          refine hK.out _ _ (CUS.out.s.conj) (fun hH => ?_)
          clear hK K hH
          try simp only [List.setIfInBounds_toArray, List.set_cons_zero, List.set_cons_succ]
          exact Y4.out _ A3 c3 CUS.out
        · go_simp
          refine hK.out _ _ (CUR.out.mka.s.conj) (fun hH => ?_)
          clear hK K hH
          try simp only [List.setIfInBounds_toArray, List.set_cons_zero, List.set_cons_succ]
          exact Y37.out _ _ A3 c3 CUR.out.mka
        · go_simp
          refine hK.out _ _ (CUR.out.mkb.s.conj) (fun hH => ?_)
          clear hK K hH
          try simp only [List.setIfInBounds_toArray, List.set_cons_zero, List.set_cons_succ]
          exact Y38.out _ _ A3 c3 CUR.out.mkb)
      simp only [Act.put, List.setIfInBounds_toArray, List.set_cons_zero, List.set_cons_succ] at Y3
      clear Y478 Y47 Y48 Y4
      have Y278 : Hid (∀ (W : World) (g7 : Nat) (g8 : Nat), Nz.ST wo w.heap.size (w.heap.size + 1) (.int .i64 Na) (.slice Aa la ca) (.int .i64 Nb) (.slice Ab lb cb) mm mm RJ RM (some g7) (some g8) none none W → wpAnyH Tryd.prog .any ?zops4 ?zq4 ?zs4 10 #[true, true, true, true, false, true, false, true, false, false, true, false, true, false, false, true, true, false, false, false] ((((({ tmps := ?zt4, defers := ?zd4 } : Act).put (some 24) (zoneV Na Aa la ca)).put (some 26) (zoneV Nb Ab lb cb)).put (some 7) (.pointer (some ⟨g7, 0, none⟩))).put (some 8) (.pointer (some ⟨g8, 0, none⟩))) W) := Lib.hid (by
        intro W g7 g8 hST
        have CUR := Lib.hid hST
        clear hST
        simp only [Act.put, List.setIfInBounds_toArray, List.set_cons_zero, List.set_cons_succ]
        refine wpAnyH_ready (rs := [4]) (by kernel_rfl) (by simp) ?_
        refine (AllReadyH.cons (o := ⟨some 27, _, _, _, _, _⟩) rfl (fun K hK => ?_) AllReadyH.nil)
        · go_simp
          refine (Nz.st_one HJn.out CUR.out).mono ?_
          rintro e w1 ⟨A3, c3, rfl, hS⟩
          have CUS := Lib.hid hS
          clear hS
          go_wp2_with fail
          refine hK.out _ _ (CUS.out.s.conj) (fun hH => ?_)
          clear hK K hH
          try simp only [List.setIfInBounds_toArray, List.set_cons_zero, List.set_cons_succ]
          exact Y378.out _ g7 g8 A3 c3 CUS.out)
      simp only [Act.put, List.setIfInBounds_toArray, List.set_cons_zero, List.set_cons_succ] at Y278
      have Y27 : Hid (∀ (W : World) (g7 : Nat), Nz.ST wo w.heap.size (w.heap.size + 1) (.int .i64 Na) (.slice Aa la ca) (.int .i64 Nb) (.slice Ab lb cb) mm mm RJ RM (some g7) none none none W → wpAnyH Tryd.prog .any ?zops4 ?zq4 ?zs4 11 #[true, true, true, true, false, true, false, true, false, false, true, false, true, false, false, true, false, false, false, false] (((({ tmps := ?zt4, defers := ?zd4 } : Act).put (some 24) (zoneV Na Aa la ca)).put (some 26) (zoneV Nb Ab lb cb)).put (some 7) (.pointer (some ⟨g7, 0, none⟩))) W) := Lib.hid (by
        intro W g7 hST
        have CUR := Lib.hid hST
        clear hST
        simp only [Act.put, List.setIfInBounds_toArray, List.set_cons_zero, List.set_cons_succ]
        refine wpAnyH_ready (rs := [4, 16]) (by kernel_rfl) (by simp) ?_
        refine (AllReadyH.cons (o := ⟨some 27, _, _, _, _, _⟩) rfl (fun K hK => ?_) (AllReadyH.cons (o := ⟨some 8, _, _, _, _, _⟩) rfl (fun K hK => ?_) AllReadyH.nil))
        · go_simp
          refine (Nz.st_one HJn.out CUR.out).mono ?_
          rintro e w1 ⟨A3, c3, rfl, hS⟩
          have CUS := Lib.hid hS
          clear hS
          go_wp2_with fail
          refine hK.out _ _ (CUS.out.s.conj) (fun hH => ?_)
          clear hK K hH
          try simp only [List.setIfInBounds_toArray, List.set_cons_zero, List.set_cons_succ]
          exact Y37.out _ g7 A3 c3 CUS.out
        · go_simp
          refine hK.out _ _ (CUR.out.mkb.s.conj) (fun hH => ?_)
          clear hK K hH
          try simp only [List.setIfInBounds_toArray, List.set_cons_zero, List.set_cons_succ]
          exact Y278.out _ g7 _ CUR.out.mkb)
      simp only [Act.put, List.setIfInBounds_toArray, List.set_cons_zero, List.set_cons_succ] at Y27
      have Y28 : Hid (∀ (W : World) (g8 : Nat), Nz.ST wo w.heap.size (w.heap.size + 1) (.int .i64 Na) (.slice Aa la ca) (.int .i64 Nb) (.slice Ab lb cb) mm mm RJ RM none (some g8) none none W → wpAnyH Tryd.prog .any ?zops4 ?zq4 ?zs4 11 #[true, true, true, true, false, true, false, true, false, false, true, false, true, false, false, false, true, false, false, false] (((({ tmps := ?zt4, defers := ?zd4 } : Act).put (some 24) (zoneV Na Aa la ca)).put (some 26) (zoneV Nb Ab lb cb)).put (some 8) (.pointer (some ⟨g8, 0, none⟩))) W) := Lib.hid (by
        intro W g8 hST
        have CUR := Lib.hid hST
        clear hST
        simp only [Act.put, List.setIfInBounds_toArray, List.set_cons_zero, List.set_cons_succ]
        refine wpAnyH_ready (rs := [4, 15]) (by kernel_rfl) (by simp) ?_
        refine (AllReadyH.cons (o := ⟨some 27, _, _, _, _, _⟩) rfl (fun K hK => ?_) (AllReadyH.cons (o := ⟨some 7, _, _, _, _, _⟩) rfl (fun K hK => ?_) AllReadyH.nil))
        · go_simp
          refine (Nz.st_one HJn.out CUR.out).mono ?_
          rintro e w1 ⟨A3, c3, rfl, hS⟩
          have CUS := Lib.hid hS
          clear hS
          go_wp2_with fail
          refine hK.out _ _ (CUS.out.s.conj) (fun hH => ?_)
          clear hK K hH
          try simp only [List.setIfInBounds_toArray, List.set_cons_zero, List.set_cons_succ]
          exact Y38.out _ g8 A3 c3 CUS.out
        · go_simp
          refine hK.out _ _ (CUR.out.mka.s.conj) (fun hH => ?_)
          clear hK K hH
          try simp only [List.setIfInBounds_toArray, List.set_cons_zero, List.set_cons_succ]
          exact Y278.out _ _ g8 CUR.out.mka)
      simp only [Act.put, List.setIfInBounds_toArray, List.set_cons_zero, List.set_cons_succ] at Y28
      have Y2 : Hid (∀ (W : World), Nz.ST wo w.heap.size (w.heap.size + 1) (.int .i64 Na) (.slice Aa la ca) (.int .i64 Nb) (.slice Ab lb cb) mm mm RJ RM none none none none W → wpAnyH Tryd.prog .any ?zops4 ?zq4 ?zs4 12 #[true, true, true, true, false, true, false, true, false, false, true, false, true, false, false, false, false, false, false, false] ((({ tmps := ?zt4, defers := ?zd4 } : Act).put (some 24) (zoneV Na Aa la ca)).put (some 26) (zoneV Nb Ab lb cb)) W) := Lib.hid (by
        intro W hST
        have CUR := Lib.hid hST
        clear hST
        simp only [Act.put, List.setIfInBounds_toArray, List.set_cons_zero, List.set_cons_succ]
        refine wpAnyH_ready (rs := [4, 15, 16]) (by kernel_rfl) (by simp) ?_
        refine (AllReadyH.cons (o := ⟨some 27, _, _, _, _, _⟩) rfl (fun K hK => ?_) (AllReadyH.cons (o := ⟨some 7, _, _, _, _, _⟩) rfl (fun K hK => ?_) (AllReadyH.cons (o := ⟨some 8, _, _, _, _, _⟩) rfl (fun K hK => ?_) AllReadyH.nil)))
        · go_simp
          refine (Nz.st_one HJn.out CUR.out).mono ?_
          rintro e w1 ⟨A3, c3, rfl, hS⟩
          have CUS := Lib.hid hS
          clear hS
          go_wp2_with fail
          refine hK.out _ _ (CUS.out.s.conj) (fun hH => ?_)
          clear hK K hH
          try simp only [List.setIfInBounds_toArray, List.set_cons_zero, List.set_cons_succ]
          exact Y3.out _ A3 c3 CUS.out
        · go_simp
          refine hK.out _ _ (CUR.out.mka.s.conj) (fun hH => ?_)
          clear hK K hH
          try simp only [List.setIfInBounds_toArray, List.set_cons_zero, List.set_cons_succ]
          exact Y27.out _ _ CUR.out.mka
        · go_simp
          refine hK.out _ _ (CUR.out.mkb.s.conj) (fun hH => ?_)
          clear hK K hH
          try simp only [List.setIfInBounds_toArray, List.set_cons_zero, List.set_cons_succ]
          exact Y28.out _ _ CUR.out.mkb)
      simp only [Act.put, List.setIfInBounds_toArray, List.set_cons_zero, List.set_cons_succ] at Y2
      clear Y378 Y37 Y38 Y3
      have Y178 : Hid (∀ (W : World) (g7 : Nat) (g8 : Nat), Nz.ST wo w.heap.size (w.heap.size + 1) (.int .i64 Na) (.slice Aa la ca) (.int .i64 Nb) (.slice Ab lb cb) mm mm RJ RM (some g7) (some g8) none none W → wpAnyH Tryd.prog .any ?zops4 ?zq4 ?zs4 11 #[true, true, true, false, false, true, false, true, false, false, true, false, true, false, false, true, true, false, false, false] (((({ tmps := ?zt4, defers := ?zd4 } : Act).put (some 24) (zoneV Na Aa la ca)).put (some 7) (.pointer (some ⟨g7, 0, none⟩))).put (some 8) (.pointer (some ⟨g8, 0, none⟩))) W) := Lib.hid (by
        intro W g7 g8 hST
        have CUR := Lib.hid hST
        clear hST
        simp only [Act.put, List.setIfInBounds_toArray, List.set_cons_zero, List.set_cons_succ]
        refine wpAnyH_ready (rs := [3]) (by kernel_rfl) (by simp) ?_
        refine (AllReadyH.cons (o := ⟨some 26, _, _, _, _, _⟩) rfl (fun K hK => ?_) AllReadyH.nil)
        · go_simp
          refine (Nz.st_any (fun W _ => of_zone W _ _ _ _) CUR.out).mono ?_
          rintro e w1 ⟨rfl, hS⟩
          have CUS := Lib.hid hS
          clear hS
          go_wp2_with fail
          refine hK.out _ _ (CUS.out.s.conj) (fun hH => ?_)
          clear hK K hH
          try simp only [List.setIfInBounds_toArray, List.set_cons_zero, List.set_cons_succ]
          exact Y278.out _ g7 g8 CUS.out)
      simp only [Act.put, List.setIfInBounds_toArray, List.set_cons_zero, List.set_cons_succ] at Y178
      have Y17 : Hid (∀ (W : World) (g7 : Nat), Nz.ST wo w.heap.size (w.heap.size + 1) (.int .i64 Na) (.slice Aa la ca) (.int .i64 Nb) (.slice Ab lb cb) mm mm RJ RM (some g7) none none none W → wpAnyH Tryd.prog .any ?zops4 ?zq4 ?zs4 12 #[true, true, true, false, false, true, false, true, false, false, true, false, true, false, false, true, false, false, false, false] ((({ tmps := ?zt4, defers := ?zd4 } : Act).put (some 24) (zoneV Na Aa la ca)).put (some 7) (.pointer (some ⟨g7, 0, none⟩))) W) := Lib.hid (by
        intro W g7 hST
        have CUR := Lib.hid hST
        clear hST
        simp only [Act.put, List.setIfInBounds_toArray, List.set_cons_zero, List.set_cons_succ]
        refine wpAnyH_ready (rs := [3, 16]) (by kernel_rfl) (by simp) ?_
        refine (AllReadyH.cons (o := ⟨some 26, _, _, _, _, _⟩) rfl (fun K hK => ?_) (AllReadyH.cons (o := ⟨some 8, _, _, _, _, _⟩) rfl (fun K hK => ?_) AllReadyH.nil))
        · go_simp
          refine (Nz.st_any (fun W _ => of_zone W _ _ _ _) CUR.out).mono ?_
          rintro e w1 ⟨rfl, hS⟩
          have CUS := Lib.hid hS
          clear hS
          go_wp2_with fail
          refine hK.out _ _ (CUS.out.s.conj) (fun hH => ?_)
          clear hK K hH
          try simp only [List.setIfInBounds_toArray, List.set_cons_zero, List.set_cons_succ]
          exact Y27.out _ g7 CUS.out
        · go_simp
          refine hK.out _ _ (CUR.out.mkb.s.conj) (fun hH => ?_)
          clear hK K hH
          try simp only [List.setIfInBounds_toArray, List.set_cons_zero, List.set_cons_succ]
          exact Y178.out _ g7 _ CUR.out.mkb)
      simp only [Act.put, List.setIfInBounds_toArray, List.set_cons_zero, List.set_cons_succ] at Y17
      have Y18 : Hid (∀ (W : World) (g8 : Nat), Nz.ST wo w.heap.size (w.heap.size + 1) (.int .i64 Na) (.slice Aa la ca) (.int .i64 Nb) (.slice Ab lb cb) mm mm RJ RM none (some g8) none none W → wpAnyH Tryd.prog .any ?zops4 ?zq4 ?zs4 12 #[true, true, true, false, false, true, false, true, false, false, true, false, true, false, false, false, true, false, false, false] ((({ tmps := ?zt4, defers := ?zd4 } : Act).put (some 24) (zoneV Na Aa la ca)).put (some 8) (.pointer (some ⟨g8, 0, none⟩))) W) := Lib.hid (by
        intro W g8 hST
        have CUR := Lib.hid hST
        clear hST
        simp only [Act.put, List.setIfInBounds_toArray, List.set_cons_zero, List.set_cons_succ]
        refine wpAnyH_ready (rs := [3, 15]) (by kernel_rfl) (by simp) ?_
        refine (AllReadyH.cons (o := ⟨some 26, _, _, _, _, _⟩) rfl (fun K hK => ?_) (AllReadyH.cons (o := ⟨some 7, _, _, _, _, _⟩) rfl (fun K hK => ?_) AllReadyH.nil))
        · go_simp
          refine (Nz.st_any (fun W _ => of_zone W _ _ _ _) CUR.out).mono ?_
          rintro e w1 ⟨rfl, hS⟩
          have CUS := Lib.hid hS
          clear hS
          go_wp2_with fail
          refine hK.out _ _ (CUS.out.s.conj) (fun hH => ?_)
          clear hK K hH
          try simp only [List.setIfInBounds_toArray, List.set_cons_zero, List.set_cons_succ]
          exact Y28.out _ g8 CUS.out
        · go_simp
          refine hK.out _ _ (CUR.out.mka.s.conj) (fun hH => ?_)
          clear hK K hH
          try simp only [List.setIfInBounds_toArray, List.set_cons_zero, List.set_cons_succ]
          exact Y178.out _ _ g8 CUR.out.mka)
      simp only [Act.put, List.setIfInBounds_toArray, List.set_cons_zero, List.set_cons_succ] at Y18
      have Y1 : Hid (∀ (W : World), Nz.ST wo w.heap.size (w.heap.size + 1) (.int .i64 Na) (.slice Aa la ca) (.int .i64 Nb) (.slice Ab lb cb) mm mm RJ RM none none none none W → wpAnyH Tryd.prog .any ?zops4 ?zq4 ?zs4 13 #[true, true, true, false, false, true, false, true, false, false, true, false, true, false, false, false, false, false, false, false] (({ tmps := ?zt4, defers := ?zd4 } : Act).put (some 24) (zoneV Na Aa la ca)) W) := Lib.hid (by
        intro W hST
        have CUR := Lib.hid hST
        clear hST
        simp only [Act.put, List.setIfInBounds_toArray, List.set_cons_zero, List.set_cons_succ]
        refine wpAnyH_ready (rs := [3, 15, 16]) (by kernel_rfl) (by simp) ?_
        refine (AllReadyH.cons (o := ⟨some 26, _, _, _, _, _⟩) rfl (fun K hK => ?_) (AllReadyH.cons (o := ⟨some 7, _, _, _, _, _⟩) rfl (fun K hK => ?_) (AllReadyH.cons (o := ⟨some 8, _, _, _, _, _⟩) rfl (fun K hK => ?_) AllReadyH.nil)))
        · go_simp
          refine (Nz.st_any (fun W _ => of_zone W _ _ _ _) CUR.out).mono ?_
          rintro e w1 ⟨rfl, hS⟩
          have CUS := Lib.hid hS
          clear hS
          go_wp2_with fail
          refine hK.out _ _ (CUS.out.s.conj) (fun hH => ?_)
          clear hK K hH
          try simp only [List.setIfInBounds_toArray, List.set_cons_zero, List.set_cons_succ]
          exact Y2.out _ CUS.out
        · go_simp
          refine hK.out _ _ (CUR.out.mka.s.conj) (fun hH => ?_)
          clear hK K hH
          try simp only [List.setIfInBounds_toArray, List.set_cons_zero, List.set_cons_succ]
          exact Y17.out _ _ CUR.out.mka
        · go_simp
          refine hK.out _ _ (CUR.out.mkb.s.conj) (fun hH => ?_)
          clear hK K hH
          try simp only [List.setIfInBounds_toArray, List.set_cons_zero, List.set_cons_succ]
          exact Y18.out _ _ CUR.out.mkb)
      simp only [Act.put, List.setIfInBounds_toArray, List.set_cons_zero, List.set_cons_succ] at Y1
      clear Y278 Y27 Y28 Y2
      have Y078 : Hid (∀ (W : World) (g7 : Nat) (g8 : Nat), Nz.ST wo w.heap.size (w.heap.size + 1) (.int .i64 Na) (.slice Aa la ca) (.int .i64 Nb) (.slice Ab lb cb) mm mm RJ RM (some g7) (some g8) none none W → wpAnyH Tryd.prog .any ?zops4 ?zq4 ?zs4 12 #[true, false, true, false, false, true, false, true, false, false, true, false, true, false, false, true, true, false, false, false] ((({ tmps := ?zt4, defers := ?zd4 } : Act).put (some 7) (.pointer (some ⟨g7, 0, none⟩))).put (some 8) (.pointer (some ⟨g8, 0, none⟩))) W) := Lib.hid (by
        intro W g7 g8 hST
        have CUR := Lib.hid hST
        clear hST
        simp only [Act.put, List.setIfInBounds_toArray, List.set_cons_zero, List.set_cons_succ]
        refine wpAnyH_ready (rs := [1]) (by kernel_rfl) (by simp) ?_
        refine (AllReadyH.cons (o := ⟨some 24, _, _, _, _, _⟩) rfl (fun K hK => ?_) AllReadyH.nil)
        · go_simp
          refine (Nz.st_any (fun W _ => of_zone W _ _ _ _) CUR.out).mono ?_
          rintro e w1 ⟨rfl, hS⟩
          have CUS := Lib.hid hS
          clear hS
          go_wp2_with fail
          refine hK.out _ _ (CUS.out.s.conj) (fun hH => ?_)
          clear hK K hH
          try simp only [List.setIfInBounds_toArray, List.set_cons_zero, List.set_cons_succ]
          exact Y178.out _ g7 g8 CUS.out)
      simp only [Act.put, List.setIfInBounds_toArray, List.set_cons_zero, List.set_cons_succ] at Y078
      have Y07 : Hid (∀ (W : World) (g7 : Nat), Nz.ST wo w.heap.size (w.heap.size + 1) (.int .i64 Na) (.slice Aa la ca) (.int .i64 Nb) (.slice Ab lb cb) mm mm RJ RM (some g7) none none none W → wpAnyH Tryd.prog .any ?zops4 ?zq4 ?zs4 13 #[true, false, true, false, false, true, false, true, false, false, true, false, true, false, false, true, false, false, false, false] (({ tmps := ?zt4, defers := ?zd4 } : Act).put (some 7) (.pointer (some ⟨g7, 0, none⟩))) W) := Lib.hid (by
        intro W g7 hST
        have CUR := Lib.hid hST
        clear hST
        simp only [Act.put, List.setIfInBounds_toArray, List.set_cons_zero, List.set_cons_succ]
        refine wpAnyH_ready (rs := [1, 16]) (by kernel_rfl) (by simp) ?_
        refine (AllReadyH.cons (o := ⟨some 24, _, _, _, _, _⟩) rfl (fun K hK => ?_) (AllReadyH.cons (o := ⟨some 8, _, _, _, _, _⟩) rfl (fun K hK => ?_) AllReadyH.nil))
        · go_simp
          refine (Nz.st_any (fun W _ => of_zone W _ _ _ _) CUR.out).mono ?_
          rintro e w1 ⟨rfl, hS⟩
          have CUS := Lib.hid hS
          clear hS
          go_wp2_with fail
          refine hK.out _ _ (CUS.out.s.conj) (fun hH => ?_)
          clear hK K hH
          try simp only [List.setIfInBounds_toArray, List.set_cons_zero, List.set_cons_succ]
          exact Y17.out _ g7 CUS.out
        · go_simp
          refine hK.out _ _ (CUR.out.mkb.s.conj) (fun hH => ?_)
          clear hK K hH
          try simp only [List.setIfInBounds_toArray, List.set_cons_zero, List.set_cons_succ]
          exact Y078.out _ g7 _ CUR.out.mkb)
      simp only [Act.put, List.setIfInBounds_toArray, List.set_cons_zero, List.set_cons_succ] at Y07
      have Y08 : Hid (∀ (W : World) (g8 : Nat), Nz.ST wo w.heap.size (w.heap.size + 1) (.int .i64 Na) (.slice Aa la ca) (.int .i64 Nb) (.slice Ab lb cb) mm mm RJ RM none (some g8) none none W → wpAnyH Tryd.prog .any ?zops4 ?zq4 ?zs4 13 #[true, false, true, false, false, true, false, true, false, false, true, false, true, false, false, false, true, false, false, false] (({ tmps := ?zt4, defers := ?zd4 } : Act).put (some 8) (.pointer (some ⟨g8, 0, none⟩))) W) := Lib.hid (by
        intro W g8 hST
        have CUR := Lib.hid hST
        clear hST
        simp only [Act.put, List.setIfInBounds_toArray, List.set_cons_zero, List.set_cons_succ]
        refine wpAnyH_ready (rs := [1, 15]) (by kernel_rfl) (by simp) ?_
        refine (AllReadyH.cons (o := ⟨some 24, _, _, _, _, _⟩) rfl (fun K hK => ?_) (AllReadyH.cons (o := ⟨some 7, _, _, _, _, _⟩) rfl (fun K hK => ?_) AllReadyH.nil))
        · go_simp
          refine (Nz.st_any (fun W _ => of_zone W _ _ _ _) CUR.out).mono ?_
          rintro e w1 ⟨rfl, hS⟩
          have CUS := Lib.hid hS
          clear hS
          go_wp2_with fail
          refine hK.out _ _ (CUS.out.s.conj) (fun hH => ?_)
          clear hK K hH
          try simp only [List.setIfInBounds_toArray, List.set_cons_zero, List.set_cons_succ]
          exact Y18.out _ g8 CUS.out
        · go_simp
          refine hK.out _ _ (CUR.out.mka.s.conj) (fun hH => ?_)
          clear hK K hH
          try simp only [List.setIfInBounds_toArray, List.set_cons_zero, List.set_cons_succ]
          exact Y078.out _ _ g8 CUR.out.mka)
      simp only [Act.put, List.setIfInBounds_toArray, List.set_cons_zero, List.set_cons_succ] at Y08
      have Y0 : Hid (∀ (W : World), Nz.ST wo w.heap.size (w.heap.size + 1) (.int .i64 Na) (.slice Aa la ca) (.int .i64 Nb) (.slice Ab lb cb) mm mm RJ RM none none none none W → wpAnyH Tryd.prog .any ?zops4 ?zq4 ?zs4 14 #[true, false, true, false, false, true, false, true, false, false, true, false, true, false, false, false, false, false, false, false] ({ tmps := ?zt4, defers := ?zd4 } : Act) W) := Lib.hid (by
        intro W hST
        have CUR := Lib.hid hST
        clear hST
        skip
        refine wpAnyH_ready (rs := [1, 15, 16]) (by kernel_rfl) (by simp) ?_
        refine (AllReadyH.cons (o := ⟨some 24, _, _, _, _, _⟩) rfl (fun K hK => ?_) (AllReadyH.cons (o := ⟨some 7, _, _, _, _, _⟩) rfl (fun K hK => ?_) (AllReadyH.cons (o := ⟨some 8, _, _, _, _, _⟩) rfl (fun K hK => ?_) AllReadyH.nil)))
        · go_simp
          refine (Nz.st_any (fun W _ => of_zone W _ _ _ _) CUR.out).mono ?_
          rintro e w1 ⟨rfl, hS⟩
          have CUS := Lib.hid hS
          clear hS
          go_wp2_with fail
          refine hK.out _ _ (CUS.out.s.conj) (fun hH => ?_)
          clear hK K hH
          try simp only [List.setIfInBounds_toArray, List.set_cons_zero, List.set_cons_succ]
          exact Y1.out _ CUS.out
        · go_simp
          refine hK.out _ _ (CUR.out.mka.s.conj) (fun hH => ?_)
          clear hK K hH
          try simp only [List.setIfInBounds_toArray, List.set_cons_zero, List.set_cons_succ]
          exact Y07.out _ _ CUR.out.mka
        · go_simp
          refine hK.out _ _ (CUR.out.mkb.s.conj) (fun hH => ?_)
          clear hK K hH
          try simp only [List.setIfInBounds_toArray, List.set_cons_zero, List.set_cons_succ]
          exact Y08.out _ _ CUR.out.mkb)
      clear Y178 Y17 Y18 Y1
      have hy0 := Y0.out wo.drew CUR.out.dr
      clear Y0
      exact hy0
    case rest =>
      obtain ⟨rfl, gj, gm, bj, bm, AJ, AM, cj, cm, hU⟩ := hcut
      have U := Lib.hid hU
      obtain rfl := hU.es
      obtain rfl := hU.et
      have TB := Lib.hid (T.out.below hU.low)
      have HB := Lib.hid (MO.out.low.trans (hU.low.mono MO.out.low.size))
      clear hU CUR
      have a0 := TB.out.dg.cell0
      have a1 := TB.out.dg.lt
      have a2 := TB.out.dh.cell0
      have a3 := TB.out.dh.lt
      rcases hh with ⟨hne, rfl, rfl, rfl, rfl⟩ | ⟨f1, f2, f3, f4, f5⟩
      · obtain ⟨rfl, rfl⟩ := rn_of U.out.za
        obtain ⟨rfl, rfl⟩ := rn_of U.out.zb
        have d1 : ((ma : Int) - 1 == (mb : Int) - 1) = false := by simp; omega
        have d2 : decide ((ma : Int) - 1 = (mb : Int) - 1) = false := decide_eq_false (by omega)
        have d3 : ((ma : Int) - 1 != (mb : Int) - 1) = true := by simp; omega
        have d4 : decide ((ma : Int) = (mb : Int)) = false := decide_eq_false (by omega)
        have d5 : decide (ma = mb) = false := decide_eq_false hne
        have HSb : Hid (∀ W, Calls Tryd.prog 13 #[zoneV 0 none 0 0, zoneV 0 none 0 0] W (RetB W true)) := Lib.hid fun W => lsame_any (m := 1) (R := none) (A := none) (B := none) (ca := 0) (cb := 0) (ba := 0) (bb := 0) (by omega) rfl rfl
        have HBt : Hid (∀ W, Calls Tryd.prog 24 #[.int .i64 0] W fun e w' => e = .returned (zoneV 0 none 0 0) ∧ Below W.heap.size W w') := Lib.hid fun W => rbottom_any 0 W
        have HS6 : Hid (∀ W, Nz.TwoN wo 1 1 none none (.pointer (some ⟨gj, 0, none⟩)) (.pointer (some ⟨gm, 0, none⟩)) W gj gm bj bm none none 0 0 → W.cell? ⟨gj, 0, none⟩ = some (.int .i64 0) ∧ W.cell? ⟨gj, 1, none⟩ = some (.slice none 0 0) ∧ W.cell? ⟨gm, 0, none⟩ = some (.int .i64 0) ∧ W.cell? ⟨gm, 1, none⟩ = some (.slice none 0 0)) := Lib.hid fun W h => ⟨h.dg.cell0, h.dg.cell1, h.dh.cell0, h.dh.cell1⟩
        have U9d := Lib.hid (U.out.below (Below.refl _ _).drew)
        clear hne
        go_wp2_with fail
        refine wp_region_held_drew (S := fun w' => w'.cell? ⟨gj, 0, none⟩ = some (.int .i64 0) ∧ w'.cell? ⟨gj, 1, none⟩ = some (.slice none 0 0) ∧ w'.cell? ⟨gm, 0, none⟩ = some (.int .i64 0) ∧ w'.cell? ⟨gm, 1, none⟩ = some (.slice none 0 0)) (by kernel_rfl) (HS6.out _ U9d.out) (fun hH0 => ?_)
        refine wpAnyH_ready (rs := [0]) (by kernel_rfl) (by simp) ?_
        refine AllReadyH.cons (o := ⟨some 43, _, _, _, _, _⟩) rfl (fun K hK => ?_) AllReadyH.nil
        go_simp
        refine (alive_any _).mono ?_
        rintro e w10 ⟨rfl, hb10⟩
        have U10 := Lib.hid (U9d.out.below hb10); clear hb10
        go_wp2_with fail
        refine hK.out _ _ (HS6.out _ U10.out) (fun hH1 => ?_)
        clear hK K hH0
        try simp only [Act.put, List.setIfInBounds_toArray, List.set_cons_zero, List.set_cons_succ]
        refine wpAnyH_take (i := 1) (oi := ⟨some 44, _, _, _, _, _⟩) (v := ?_) rfl (by kernel_rfl) (by kernel_rfl) (by kernel_rfl) (fun _ _ _ h => h) (Or.inl ⟨by rfl, ?_⟩) hH1 ?_
        rotate_left
        · intro w hSw
          try dsimp only at hSw
          go_simp
          try with_reducible rfl
        try simp only [Act.put, List.setIfInBounds_toArray, List.set_cons_zero, List.set_cons_succ]
        refine wpAnyH_take (i := 2) (oi := ⟨some 45, _, _, _, _, _⟩) (v := ?_) rfl (by kernel_rfl) (by kernel_rfl) (by kernel_rfl) (fun _ _ _ h => h) (Or.inl ⟨by rfl, ?_⟩) hH1 ?_
        rotate_left
        · intro w hSw
          try dsimp only at hSw
          go_simp
          try with_reducible rfl
        try simp only [Act.put, List.setIfInBounds_toArray, List.set_cons_zero, List.set_cons_succ]
        refine wpAnyH_ready (rs := [3]) (by kernel_rfl) (by simp) ?_
        refine AllReadyH.cons (o := ⟨some 46, _, _, _, _, _⟩) rfl (fun K hK => ?_) AllReadyH.nil
        go_simp
        refine (HBt.out _).mono ?_
        rintro e w11 ⟨rfl, hb11⟩
        have U11 := Lib.hid (U10.out.below hb11); clear hb11
        go_wp2_with fail
        refine hK.out _ _ (HS6.out _ U11.out) (fun hH2 => ?_)
        clear hK K hH1
        try simp only [Act.put, List.setIfInBounds_toArray, List.set_cons_zero, List.set_cons_succ]
        refine wpAnyH_ready (rs := [4]) (by kernel_rfl) (by simp) ?_
        refine AllReadyH.cons (o := ⟨some 47, _, _, _, _, _⟩) rfl (fun K hK => ?_) AllReadyH.nil
        go_simp
        refine (HSb.out _).mono ?_
        rintro e w12 ⟨rfl, hb12⟩
        have U12 := Lib.hid (U11.out.below hb12); clear hb12
        go_wp2_with fail
        refine hK.out _ _ (HS6.out _ U12.out) (fun hH3 => ?_)
        clear hK K hH2
        try simp only [Act.put, List.setIfInBounds_toArray, List.set_cons_zero, List.set_cons_succ]
        refine wpAnyH_take (i := 5) (oi := ⟨some 48, _, _, _, _, _⟩) (v := ?_) rfl (by kernel_rfl) (by kernel_rfl) (by kernel_rfl) (fun _ _ _ h => h) (Or.inl ⟨by rfl, ?_⟩) hH3 ?_
        rotate_left
        · intro w hSw
          try dsimp only at hSw
          go_simp
          try with_reducible rfl
        try simp only [Act.put, List.setIfInBounds_toArray, List.set_cons_zero, List.set_cons_succ]
        refine wpAnyH_take (i := 6) (oi := ⟨some 49, _, _, _, _, _⟩) (v := ?_) rfl (by kernel_rfl) (by kernel_rfl) (by kernel_rfl) (fun _ _ _ h => h) (Or.inl ⟨by rfl, ?_⟩) hH3 ?_
        rotate_left
        · intro w hSw
          try dsimp only at hSw
          go_simp
          try with_reducible rfl
        try simp only [Act.put, List.setIfInBounds_toArray, List.set_cons_zero, List.set_cons_succ]
        refine wpAnyH_take (i := 7) (oi := ⟨some 50, _, _, _, _, _⟩) (v := ?_) rfl (by kernel_rfl) (by kernel_rfl) (by kernel_rfl) (fun _ _ _ h => h) (Or.inl ⟨by rfl, ?_⟩) hH3 ?_
        rotate_left
        · intro w hSw
          try dsimp only at hSw
          go_simp
          try with_reducible rfl
        try simp only [Act.put, List.setIfInBounds_toArray, List.set_cons_zero, List.set_cons_succ]
        refine wpAnyH_ready (rs := [8]) (by kernel_rfl) (by simp) ?_
        refine AllReadyH.cons (o := ⟨some 51, _, _, _, _, _⟩) rfl (fun K hK => ?_) AllReadyH.nil
        go_simp
        refine (HBt.out _).mono ?_
        rintro e w13 ⟨rfl, hb13⟩
        have U13 := Lib.hid (U12.out.below hb13); clear hb13
        go_wp2_with fail
        refine hK.out _ _ (HS6.out _ U13.out) (fun hH4 => ?_)
        clear hK K hH3
        try simp only [Act.put, List.setIfInBounds_toArray, List.set_cons_zero, List.set_cons_succ]
        refine wpAnyH_ready (rs := [9]) (by kernel_rfl) (by simp) ?_
        refine AllReadyH.cons (o := ⟨some 52, _, _, _, _, _⟩) rfl (fun K hK => ?_) AllReadyH.nil
        go_simp
        refine (HSb.out _).mono ?_
        rintro e w14 ⟨rfl, hb14⟩
        have U14 := Lib.hid (U13.out.below hb14); clear hb14
        go_wp2_with fail
        refine hK.out _ _ (HS6.out _ U14.out) (fun hH5 => ?_)
        clear hK K hH4
        try simp only [Act.put, List.setIfInBounds_toArray, List.set_cons_zero, List.set_cons_succ]
        refine wpAnyH_take (i := 10) (oi := ⟨some 53, _, _, _, _, _⟩) (v := ?_) rfl (by kernel_rfl) (by kernel_rfl) (by kernel_rfl) (fun _ _ _ h => h) (Or.inl ⟨by rfl, ?_⟩) hH5 ?_
        rotate_left
        · intro w hSw
          try dsimp only at hSw
          go_simp
          try with_reducible rfl
        try simp only [Act.put, List.setIfInBounds_toArray, List.set_cons_zero, List.set_cons_succ]
        refine wpAnyH_take (i := 11) (oi := ⟨some 54, _, _, _, _, _⟩) (v := ?_) rfl (by kernel_rfl) (by kernel_rfl) (by kernel_rfl) (fun _ _ _ h => h) (Or.inl ⟨by rfl, ?_⟩) hH5 ?_
        rotate_left
        · intro w hSw
          try dsimp only at hSw
          go_simp
          try with_reducible rfl
        try simp only [Act.put, List.setIfInBounds_toArray, List.set_cons_zero, List.set_cons_succ]
        refine wpAnyH_take (i := 12) (oi := ⟨some 55, _, _, _, _, _⟩) (v := ?_) rfl (by kernel_rfl) (by kernel_rfl) (by kernel_rfl) (fun _ _ _ h => h) (Or.inl ⟨by rfl, ?_⟩) hH5 ?_
        rotate_left
        · intro w hSw
          try dsimp only at hSw
          go_simp
          try with_reducible rfl
        try simp only [Act.put, List.setIfInBounds_toArray, List.set_cons_zero, List.set_cons_succ]
        refine wpAnyH_take (i := 13) (oi := ⟨some 56, _, _, _, _, _⟩) (v := ?_) rfl (by kernel_rfl) (by kernel_rfl) (by kernel_rfl) (fun _ _ _ h => h) (Or.inl ⟨by rfl, ?_⟩) hH5 ?_
        rotate_left
        · intro w hSw
          try dsimp only at hSw
          go_simp
          try with_reducible rfl
        try simp only [Act.put, List.setIfInBounds_toArray, List.set_cons_zero, List.set_cons_succ]
        refine wpAnyH_take (i := 14) (oi := ⟨some 57, _, _, _, _, _⟩) (v := ?_) rfl (by kernel_rfl) (by kernel_rfl) (by kernel_rfl) (fun _ _ _ h => h) (Or.inl ⟨by rfl, ?_⟩) hH5 ?_
        rotate_left
        · intro w hSw
          try dsimp only at hSw
          go_simp
          try with_reducible rfl
        try simp only [Act.put, List.setIfInBounds_toArray, List.set_cons_zero, List.set_cons_succ]
        refine wpAnyH_take (i := 15) (oi := ⟨some 4, _, _, _, _, _⟩) (v := ?_) rfl (by kernel_rfl) (by kernel_rfl) (by kernel_rfl) (fun _ _ _ h => h) (Or.inl ⟨by rfl, ?_⟩) hH5 ?_
        rotate_left
        · intro w hSw
          try dsimp only at hSw
          go_simp
          try with_reducible rfl
        try simp only [Act.put, List.setIfInBounds_toArray, List.set_cons_zero, List.set_cons_succ]
        refine wpAnyH_done (by kernel_rfl) ?_ _
        go_wp2_with fail
        go_ret
        exact ⟨rfl, MO.out.low.trans (U14.out.low.mono MO.out.low.size)⟩
      · subst f1
        subst f2
        subst f3
        subst f4
        subst f5
        obtain ⟨RJ, hRJ⟩ : ∃ R, jnO ma ma Ra Rb = R := ⟨_, rfl⟩
        obtain ⟨RM, hRM⟩ : ∃ R, mtO ma ma Ra Rb = R := ⟨_, rfl⟩
        obtain ⟨lq, hlq⟩ : ∃ r, leqO ma ma Ra Rb = r := ⟨_, rfl⟩
        have H0 := Lib.hid h0
        have H7 := Lib.hid h7
        have HJn' : Hid (∀ (W : World), Nr.TwoN w2 ma ma Ra Rb (.pointer (some ⟨gx, 0, none⟩)) (.pointer (some ⟨gy, 0, none⟩)) W gx gy bx by_ AX AY cx cy → Calls Tryd.prog 28 #[zoneV ((ma : Int) - 1) AX (rlen ma Ra) cx, zoneV ((ma : Int) - 1) AY (rlen ma Rb) cy] W (RetO W ma RJ)) := Lib.hid fun W h => by rw [← hRJ]; exact rjoin_any h0 h7 h.za h.zb
        have HMt' : Hid (∀ (W : World), Nr.TwoN w2 ma ma Ra Rb (.pointer (some ⟨gx, 0, none⟩)) (.pointer (some ⟨gy, 0, none⟩)) W gx gy bx by_ AX AY cx cy → Calls Tryd.prog 29 #[zoneV ((ma : Int) - 1) AX (rlen ma Ra) cx, zoneV ((ma : Int) - 1) AY (rlen ma Rb) cy] W (RetC W ma RM)) := Lib.hid fun W h => by rw [← hRM]; exact rmeet_any h0 h7 h.za h.zb
        have HLq' : Hid (∀ (W : World), Nr.TwoN w2 ma ma Ra Rb (.pointer (some ⟨gx, 0, none⟩)) (.pointer (some ⟨gy, 0, none⟩)) W gx gy bx by_ AX AY cx cy → Calls Tryd.prog 30 #[zoneV ((ma : Int) - 1) AX (rlen ma Ra) cx, zoneV ((ma : Int) - 1) AY (rlen ma Rb) cy] W (RetB W lq)) := Lib.hid fun W h => by rw [← hlq]; exact rleq_any h0 h7 h.za h.zb
        rw [hRJ, hRM] at U
        rw [hlq]
        clear hRJ hRM hlq h0 h7 HJn HMt HLe HK
        have HS7 : Hid (∀ W, Nr.TwoN w2 ma ma Ra Rb (.pointer (some ⟨gx, 0, none⟩)) (.pointer (some ⟨gy, 0, none⟩)) W gx gy bx by_ AX AY cx cy → Nz.TwoN wo ma ma RJ RM (.pointer (some ⟨gj, 0, none⟩)) (.pointer (some ⟨gm, 0, none⟩)) W gj gm bj bm AJ AM cj cm → W.cell? ⟨gx, 0, none⟩ = some (.int .i64 ((ma : Int) - 1)) ∧ W.cell? ⟨gx, 1, none⟩ = some (.slice AX (rlen ma Ra) cx) ∧ W.cell? ⟨gy, 0, none⟩ = some (.int .i64 ((ma : Int) - 1)) ∧ W.cell? ⟨gy, 1, none⟩ = some (.slice AY (rlen ma Rb) cy) ∧ W.cell? ⟨gj, 0, none⟩ = some (.int .i64 ((ma : Int) - 1)) ∧ W.cell? ⟨gj, 1, none⟩ = some (.slice AJ (rlen ma RJ) cj) ∧ W.cell? ⟨gm, 0, none⟩ = some (.int .i64 ((ma : Int) - 1)) ∧ W.cell? ⟨gm, 1, none⟩ = some (.slice AM (rlen ma RM) cm)) := Lib.hid fun W t h => ⟨t.dg.cell0, t.dg.cell1, t.dh.cell0, t.dh.cell1, h.dg.cell0, h.dg.cell1, h.dh.cell0, h.dh.cell1⟩
        have U9d := Lib.hid (U.out.below (Below.refl _ _).drew)
        have T9d := Lib.hid (TB.out.below (Below.refl _ _).drew)
        go_wp2_with fail
        refine wp_region_held_drew (S := fun w' => w'.cell? ⟨gx, 0, none⟩ = some (.int .i64 ((ma : Int) - 1)) ∧ w'.cell? ⟨gx, 1, none⟩ = some (.slice AX (rlen ma Ra) cx) ∧ w'.cell? ⟨gy, 0, none⟩ = some (.int .i64 ((ma : Int) - 1)) ∧ w'.cell? ⟨gy, 1, none⟩ = some (.slice AY (rlen ma Rb) cy) ∧ w'.cell? ⟨gj, 0, none⟩ = some (.int .i64 ((ma : Int) - 1)) ∧ w'.cell? ⟨gj, 1, none⟩ = some (.slice AJ (rlen ma RJ) cj) ∧ w'.cell? ⟨gm, 0, none⟩ = some (.int .i64 ((ma : Int) - 1)) ∧ w'.cell? ⟨gm, 1, none⟩ = some (.slice AM (rlen ma RM) cm)) (by kernel_rfl) (HS7.out _ T9d.out U9d.out) (fun hH0 => ?_)
        refine wpAnyH_ready (rs := [0]) (by kernel_rfl) (by simp) ?_
        refine AllReadyH.cons (o := ⟨some 58, _, _, _, _, _⟩) rfl (fun K hK => ?_) AllReadyH.nil
        go_simp
        refine (alive_any _).mono ?_
        rintro e w10 ⟨rfl, hb10⟩
        have U10 := Lib.hid (U9d.out.below hb10); have T10 := Lib.hid (T9d.out.below hb10); clear hb10
        go_wp2_with fail
        refine hK.out _ _ (HS7.out _ T10.out U10.out) (fun hH1 => ?_)
        clear hK K hH0
        try simp only [Act.put, List.setIfInBounds_toArray, List.set_cons_zero, List.set_cons_succ]
        refine wpAnyH_take (i := 1) (oi := ⟨some 59, _, _, _, _, _⟩) (v := ?_) rfl (by kernel_rfl) (by kernel_rfl) (by kernel_rfl) (fun _ _ _ h => h) (Or.inl ⟨by rfl, ?_⟩) hH1 ?_
        rotate_left
        · intro w hSw
          try dsimp only at hSw
          go_simp
          try with_reducible rfl
        try simp only [Act.put, List.setIfInBounds_toArray, List.set_cons_zero, List.set_cons_succ]
        refine wpAnyH_take (i := 2) (oi := ⟨some 60, _, _, _, _, _⟩) (v := ?_) rfl (by kernel_rfl) (by kernel_rfl) (by kernel_rfl) (fun _ _ _ h => h) (Or.inl ⟨by rfl, ?_⟩) hH1 ?_
        rotate_left
        · intro w hSw
          try dsimp only at hSw
          go_simp
          try with_reducible rfl
        try simp only [Act.put, List.setIfInBounds_toArray, List.set_cons_zero, List.set_cons_succ]
        refine wpAnyH_take (i := 3) (oi := ⟨some 61, _, _, _, _, _⟩) (v := ?_) rfl (by kernel_rfl) (by kernel_rfl) (by kernel_rfl) (fun _ _ _ h => h) (Or.inl ⟨by rfl, ?_⟩) hH1 ?_
        rotate_left
        · intro w hSw
          try dsimp only at hSw
          go_simp
          try with_reducible rfl
        try simp only [Act.put, List.setIfInBounds_toArray, List.set_cons_zero, List.set_cons_succ]
        refine wpAnyH_take (i := 4) (oi := ⟨some 62, _, _, _, _, _⟩) (v := ?_) rfl (by kernel_rfl) (by kernel_rfl) (by kernel_rfl) (fun _ _ _ h => h) (Or.inl ⟨by rfl, ?_⟩) hH1 ?_
        rotate_left
        · intro w hSw
          try dsimp only at hSw
          go_simp
          try with_reducible rfl
        try simp only [Act.put, List.setIfInBounds_toArray, List.set_cons_zero, List.set_cons_succ]
        refine wpAnyH_ready (rs := [5]) (by kernel_rfl) (by simp) ?_
        refine AllReadyH.cons (o := ⟨some 63, _, _, _, _, _⟩) rfl (fun K hK => ?_) AllReadyH.nil
        go_simp
        refine (HJn'.out _ T10.out).mono ?_
        rintro e w11 ⟨A11, c11, b11, rfl, hz11, hb11⟩
        have U11 := Lib.hid (U10.out.below hb11); have T11 := Lib.hid (T10.out.below hb11); have Z11 := Lib.hid hz11; clear hz11; clear hb11
        go_wp2_with fail
        refine hK.out _ _ (HS7.out _ T11.out U11.out) (fun hH2 => ?_)
        clear hK K hH1
        try simp only [Act.put, List.setIfInBounds_toArray, List.set_cons_zero, List.set_cons_succ]
        refine wpAnyH_ready (rs := [6]) (by kernel_rfl) (by simp) ?_
        refine AllReadyH.cons (o := ⟨some 64, _, _, _, _, _⟩) rfl (fun K hK => ?_) AllReadyH.nil
        go_simp
        refine (lsame_any H7.out U11.out.za Z11.out).mono ?_
        rintro e w12 ⟨rfl, hb12⟩
        have U12 := Lib.hid (U11.out.below hb12); have T12 := Lib.hid (T11.out.below hb12); clear hb12
        go_wp2_with fail
        refine hK.out _ _ (HS7.out _ T12.out U12.out) (fun hH3 => ?_)
        clear hK K hH2
        try simp only [Act.put, List.setIfInBounds_toArray, List.set_cons_zero, List.set_cons_succ]
        refine wpAnyH_take (i := 7) (oi := ⟨some 65, _, _, _, _, _⟩) (v := ?_) rfl (by kernel_rfl) (by kernel_rfl) (by kernel_rfl) (fun _ _ _ h => h) (Or.inl ⟨by rfl, ?_⟩) hH3 ?_
        rotate_left
        · intro w hSw
          try dsimp only at hSw
          go_simp
          try with_reducible rfl
        try simp only [Act.put, List.setIfInBounds_toArray, List.set_cons_zero, List.set_cons_succ]
        refine wpAnyH_take (i := 8) (oi := ⟨some 66, _, _, _, _, _⟩) (v := ?_) rfl (by kernel_rfl) (by kernel_rfl) (by kernel_rfl) (fun _ _ _ h => h) (Or.inl ⟨by rfl, ?_⟩) hH3 ?_
        rotate_left
        · intro w hSw
          try dsimp only at hSw
          go_simp
          try with_reducible rfl
        try simp only [Act.put, List.setIfInBounds_toArray, List.set_cons_zero, List.set_cons_succ]
        refine wpAnyH_take (i := 9) (oi := ⟨some 67, _, _, _, _, _⟩) (v := ?_) rfl (by kernel_rfl) (by kernel_rfl) (by kernel_rfl) (fun _ _ _ h => h) (Or.inl ⟨by rfl, ?_⟩) hH3 ?_
        rotate_left
        · intro w hSw
          try dsimp only at hSw
          go_simp
          try with_reducible rfl
        try simp only [Act.put, List.setIfInBounds_toArray, List.set_cons_zero, List.set_cons_succ]
        refine wpAnyH_take (i := 10) (oi := ⟨some 68, _, _, _, _, _⟩) (v := ?_) rfl (by kernel_rfl) (by kernel_rfl) (by kernel_rfl) (fun _ _ _ h => h) (Or.inl ⟨by rfl, ?_⟩) hH3 ?_
        rotate_left
        · intro w hSw
          try dsimp only at hSw
          go_simp
          try with_reducible rfl
        try simp only [Act.put, List.setIfInBounds_toArray, List.set_cons_zero, List.set_cons_succ]
        refine wpAnyH_take (i := 11) (oi := ⟨some 69, _, _, _, _, _⟩) (v := ?_) rfl (by kernel_rfl) (by kernel_rfl) (by kernel_rfl) (fun _ _ _ h => h) (Or.inl ⟨by rfl, ?_⟩) hH3 ?_
        rotate_left
        · intro w hSw
          try dsimp only at hSw
          go_simp
          try with_reducible rfl
        try simp only [Act.put, List.setIfInBounds_toArray, List.set_cons_zero, List.set_cons_succ]
        refine wpAnyH_ready (rs := [12]) (by kernel_rfl) (by simp) ?_
        refine AllReadyH.cons (o := ⟨some 70, _, _, _, _, _⟩) rfl (fun K hK => ?_) AllReadyH.nil
        go_simp
        refine (HMt'.out _ T12.out).mono ?_
        rintro e w13 ⟨A13, c13, rfl, hz13, hb13⟩
        have U13 := Lib.hid (U12.out.below hb13); have T13 := Lib.hid (T12.out.below hb13); have Z13 := Lib.hid hz13; clear hz13; clear hb13
        go_wp2_with fail
        refine hK.out _ _ (HS7.out _ T13.out U13.out) (fun hH4 => ?_)
        clear hK K hH3
        try simp only [Act.put, List.setIfInBounds_toArray, List.set_cons_zero, List.set_cons_succ]
        refine wpAnyH_ready (rs := [13]) (by kernel_rfl) (by simp) ?_
        refine AllReadyH.cons (o := ⟨some 71, _, _, _, _, _⟩) rfl (fun K hK => ?_) AllReadyH.nil
        go_simp
        refine (lsame_any H7.out U13.out.zb Z13.out).mono ?_
        rintro e w14 ⟨rfl, hb14⟩
        have U14 := Lib.hid (U13.out.below hb14); have T14 := Lib.hid (T13.out.below hb14); clear hb14
        go_wp2_with fail
        refine hK.out _ _ (HS7.out _ T14.out U14.out) (fun hH5 => ?_)
        clear hK K hH4
        try simp only [Act.put, List.setIfInBounds_toArray, List.set_cons_zero, List.set_cons_succ]
        refine wpAnyH_take (i := 14) (oi := ⟨some 72, _, _, _, _, _⟩) (v := ?_) rfl (by kernel_rfl) (by kernel_rfl) (by kernel_rfl) (fun _ _ _ h => h) (Or.inl ⟨by rfl, ?_⟩) hH5 ?_
        rotate_left
        · intro w hSw
          try dsimp only at hSw
          go_simp
          try with_reducible rfl
        try simp only [Act.put, List.setIfInBounds_toArray, List.set_cons_zero, List.set_cons_succ]
        refine wpAnyH_take (i := 15) (oi := ⟨some 73, _, _, _, _, _⟩) (v := ?_) rfl (by kernel_rfl) (by kernel_rfl) (by kernel_rfl) (fun _ _ _ h => h) (Or.inl ⟨by rfl, ?_⟩) hH5 ?_
        rotate_left
        · intro w hSw
          try dsimp only at hSw
          go_simp
          try with_reducible rfl
        try simp only [Act.put, List.setIfInBounds_toArray, List.set_cons_zero, List.set_cons_succ]
        refine wpAnyH_take (i := 16) (oi := ⟨some 74, _, _, _, _, _⟩) (v := ?_) rfl (by kernel_rfl) (by kernel_rfl) (by kernel_rfl) (fun _ _ _ h => h) (Or.inl ⟨by rfl, ?_⟩) hH5 ?_
        rotate_left
        · intro w hSw
          try dsimp only at hSw
          go_simp
          try with_reducible rfl
        try simp only [Act.put, List.setIfInBounds_toArray, List.set_cons_zero, List.set_cons_succ]
        refine wpAnyH_take (i := 17) (oi := ⟨some 75, _, _, _, _, _⟩) (v := ?_) rfl (by kernel_rfl) (by kernel_rfl) (by kernel_rfl) (fun _ _ _ h => h) (Or.inl ⟨by rfl, ?_⟩) hH5 ?_
        rotate_left
        · intro w hSw
          try dsimp only at hSw
          go_simp
          try with_reducible rfl
        try simp only [Act.put, List.setIfInBounds_toArray, List.set_cons_zero, List.set_cons_succ]
        refine wpAnyH_take (i := 18) (oi := ⟨some 76, _, _, _, _, _⟩) (v := ?_) rfl (by kernel_rfl) (by kernel_rfl) (by kernel_rfl) (fun _ _ _ h => h) (Or.inl ⟨by rfl, ?_⟩) hH5 ?_
        rotate_left
        · intro w hSw
          try dsimp only at hSw
          go_simp
          try with_reducible rfl
        try simp only [Act.put, List.setIfInBounds_toArray, List.set_cons_zero, List.set_cons_succ]
        refine wpAnyH_ready (rs := [19]) (by kernel_rfl) (by simp) ?_
        refine AllReadyH.cons (o := ⟨some 77, _, _, _, _, _⟩) rfl (fun K hK => ?_) AllReadyH.nil
        go_simp
        refine (HLq'.out _ T14.out).mono ?_
        rintro e w15 ⟨rfl, hb15⟩
        have U15 := Lib.hid (U14.out.below hb15); have T15 := Lib.hid (T14.out.below hb15); clear hb15
        go_wp2_with fail
        refine hK.out _ _ (HS7.out _ T15.out U15.out) (fun hH6 => ?_)
        clear hK K hH5
        try simp only [Act.put, List.setIfInBounds_toArray, List.set_cons_zero, List.set_cons_succ]
        refine wpAnyH_take (i := 20) (oi := ⟨some 78, _, _, _, _, _⟩) (v := ?_) rfl (by kernel_rfl) (by kernel_rfl) (by kernel_rfl) (fun _ _ _ h => h) (Or.inl ⟨by rfl, ?_⟩) hH6 ?_
        rotate_left
        · intro w hSw
          try dsimp only at hSw
          go_simp
          try with_reducible rfl
        try simp only [Act.put, List.setIfInBounds_toArray, List.set_cons_zero, List.set_cons_succ]
        refine wpAnyH_take (i := 21) (oi := ⟨some 79, _, _, _, _, _⟩) (v := ?_) rfl (by kernel_rfl) (by kernel_rfl) (by kernel_rfl) (fun _ _ _ h => h) (Or.inl ⟨by rfl, ?_⟩) hH6 ?_
        rotate_left
        · intro w hSw
          try dsimp only at hSw
          go_simp
          try with_reducible rfl
        try simp only [Act.put, List.setIfInBounds_toArray, List.set_cons_zero, List.set_cons_succ]
        refine wpAnyH_take (i := 22) (oi := ⟨some 4, _, _, _, _, _⟩) (v := ?_) rfl (by kernel_rfl) (by kernel_rfl) (by kernel_rfl) (fun _ _ _ h => h) (Or.inl ⟨by rfl, ?_⟩) hH6 ?_
        rotate_left
        · intro w hSw
          try dsimp only at hSw
          go_simp
          try with_reducible rfl
        try simp only [Act.put, List.setIfInBounds_toArray, List.set_cons_zero, List.set_cons_succ]
        refine wpAnyH_done (by kernel_rfl) ?_ _
        go_wp2_with fail
        go_ret
        exact ⟨rfl, MO.out.low.trans (U15.out.low.mono MO.out.low.size)⟩
end Go.Proofs.YtcbkffpmclainaaDoor
