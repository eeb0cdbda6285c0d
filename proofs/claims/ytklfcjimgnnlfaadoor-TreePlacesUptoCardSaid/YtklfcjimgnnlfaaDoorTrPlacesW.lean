/- TreePlaces: the walk. -/
import Derived.Test.YtklfcjimgnnlfaaDoorTrMvP
import Derived.Test.YtklfcjimgnnlfaaDoorTrProg
import Derived.Test.YtklfcjimgnnlfaaDoorTrSized
import Derived.Test.YtklfcjimgnnlfaaDoorTrAlive
import Derived.Test.YtklfcjimgnnlfaaDoorTrPgSame
import Derived.Test.YtklfcjimgnnlfaaDoorTrArgsP
import Derived.Deep.RegionHeld3
import Derived.Deep.DeepCutAuto
import Derived.Deep.CutBlock
namespace Go.Proofs.YtklfcjimgnnlfaaDoor
open Go.RowKit
def CutY (W2 : World) (n : Nat) (d : Int) (a1 a2 : Value) (lM : List St) (t6 : Value) (wx : World) : Prop :=
  ∃ pz H AM cM, t6 = .pointer (some ⟨pz, 0, none⟩) ∧ YI W2 pz H n a1 a2 (.slice none 0 0) (.slice AM (mvB d lM).length cM) (mvB d lM) [] (.slice none 0 0) wx
set_option maxRecDepth 100000 in
set_option maxHeartbeats 25600000 in
theorem places_walk (n : Nat) (p : Pg) (vE vV vP vM : Value) (d : Int) (W : World) (ht : Tabs W) (h1 : PgR (fun b => b < W.heap.size) n W p vE vV vP vM) (hc : costP p ≤ 1048576) (_ : In64 d) :
    Calls Tryd.prog 4 #[pgV vE vV vP vM, .int .i64 d] W fun e w' => e = .returned (.bool true) ∧ Below W.heap.size W w' := by
  have HLen := Lib.hid (print_len h1 hc)
  have HDeep := Lib.hid (print_deep hc)
  obtain ⟨E1, e1, rfl, -, -⟩ := h1.en.slice
  obtain ⟨V1, v1, rfl, -, -⟩ := h1.va.slice
  obtain ⟨R1, z1, rfl, -, -⟩ := h1.pr.slice
  obtain ⟨M1, d1, rfl, -, -⟩ := h1.mn.slice
  have HPg := Lib.hid h1
  obtain ⟨i2, hi0, hq0, hq1, hq2⟩ := info_parts prfo
  have HI2 := Lib.hid (And.intro hi0 (And.intro hq0 (And.intro hq1 hq2)))
  clear hi0 hq0 hq1 hq2 h1 hc
  obtain ⟨W0, hW0⟩ : ∃ W0, W0 = W.alloc (.cells #[.slice E1 p.enums.length e1, .slice V1 p.vars.length v1, .slice R1 p.procs.length z1, .slice M1 p.main.length d1] 27) := ⟨_, rfl⟩
  have B0 : Hid (Below W.heap.size W W0) := Lib.hid (by rw [hW0]; exact (Below.refl _ _).alloc (Nat.le_refl _) _)
  have HKa : Hid (Blk W0 W.heap.size 27 #[.slice E1 p.enums.length e1, .slice V1 p.vars.length v1, .slice R1 p.procs.length z1, .slice M1 p.main.length d1]) := Lib.hid (by rw [hW0]; exact Blk.new W _ _)
  have HW0 := Lib.hid hW0
  clear hW0
  have HSB : Hid (∀ w', Below W0.heap.size W0 w' → w'.cell? ⟨W.heap.size, 0, none⟩ = some (.slice E1 p.enums.length e1) ∧ w'.cell? ⟨W.heap.size, 1, none⟩ = some (.slice V1 p.vars.length v1) ∧ w'.cell? ⟨W.heap.size, 2, none⟩ = some (.slice R1 p.procs.length z1) ∧ w'.cell? ⟨W.heap.size, 3, none⟩ = some (.slice M1 p.main.length d1)) := Lib.hid fun w' hb => ⟨(HKa.out.below hb HKa.out.lt).cell 0, (HKa.out.below hb HKa.out.lt).cell 1, (HKa.out.below hb HKa.out.lt).cell 2, (HKa.out.below hb HKa.out.lt).cell 3⟩
  have HA : Hid (∀ w', Below W0.heap.size W0 w' → Calls Tryd.prog 7 #[] w' (fun e w2 => e = .returned (.bool true) ∧ Below w'.heap.size w' w2)) := Lib.hid fun w' hb => alive_any w' (ht.stays (thru B0.out hb))
  obtain ⟨s1, hs1⟩ : ∃ s, s = W64 (szPg p) := ⟨_, rfl⟩
  have HS1 : Hid (∀ w', Below W0.heap.size W0 w' → Calls Tryd.prog 6 #[pgV (.slice E1 p.enums.length e1) (.slice V1 p.vars.length v1) (.slice R1 p.procs.length z1) (.slice M1 p.main.length d1)] w' (fun e w2 => e = .returned (.int .i64 s1) ∧ Below w'.heap.size w' w2)) := Lib.hid fun w' hb => by
    rw [hs1]
    exact rSized_any n p _ _ _ _ _ w' (HPg.out.below (thru B0.out hb) (fun b h => h)) (lo_up (fun b h => h) (thru B0.out hb).size)
  have D0 : Hid (Below W0.heap.size W0 W0) := Lib.hid (Below.refl _ _)
  obtain ⟨x0, x1, x2, x3⟩ := HSB.out _ D0.out
  have HT := Lib.hid ht
  clear hs1 ht
  by_cases hg1 : (300 : Int) < s1
  · go_enter Tryd.func4, Tryd.ntmps4
    go_upto_region 1 with fail
    rw [← HW0.out]
    go_wp2_with (first
      | (go_at_call 6; have HX := HS1.out _ D0.out; (with_reducible refine HX.mono ?_); clear HX; rintro e w_D1 ⟨rfl, hb⟩; have D1 := Lib.hid (thru D0.out hb); clear hb)
      | (go_at_call 7; have HX := HA.out _ D1.out; (with_reducible refine HX.mono ?_); clear HX; rintro e w_D2 ⟨rfl, hb⟩; have D2 := Lib.hid (thru D1.out hb); clear hb))
    go_ret
    exact ⟨rfl, thru B0.out D2.out⟩
  · by_cases hg2 : d < -1000
    · go_enter Tryd.func4, Tryd.ntmps4
      go_upto_region 1 with fail
      rw [← HW0.out]
      go_wp2_with (first
        | (go_at_call 6; have HX := HS1.out _ D0.out; (with_reducible refine HX.mono ?_); clear HX; rintro e w_D1 ⟨rfl, hb⟩; have D1 := Lib.hid (thru D0.out hb); clear hb)
        | (go_at_call 7; have HX := HA.out _ D1.out; (with_reducible refine HX.mono ?_); clear HX; rintro e w_D2 ⟨rfl, hb⟩; have D2 := Lib.hid (thru D1.out hb); clear hb))
      go_ret
      exact ⟨rfl, thru B0.out D2.out⟩
    · by_cases hg3 : 1000 < d
      · go_enter Tryd.func4, Tryd.ntmps4
        go_upto_region 1 with fail
        rw [← HW0.out]
        go_wp2_with (first
          | (go_at_call 6; have HX := HS1.out _ D0.out; (with_reducible refine HX.mono ?_); clear HX; rintro e w_D1 ⟨rfl, hb⟩; have D1 := Lib.hid (thru D0.out hb); clear hb)
          | (go_at_call 7; have HX := HA.out _ D1.out; (with_reducible refine HX.mono ?_); clear HX; rintro e w_D2 ⟨rfl, hb⟩; have D2 := Lib.hid (thru D1.out hb); clear hb))
        go_ret
        exact ⟨rfl, thru B0.out D2.out⟩
      · have HXp : Hid (∀ w', Below W0.heap.size W0 w' → Calls Tryd.prog 8 #[pgV (.slice E1 p.enums.length e1) (.slice V1 p.vars.length v1) (.slice R1 p.procs.length z1) (.slice M1 p.main.length d1)] w' (RetPg n p w')) := Lib.hid fun w' hb => prog_any n p _ _ _ _ w' ((HPg.out.below (thru B0.out hb) (fun b h => h)).wide (lo_up (fun b h => h) (thru B0.out hb).size))
        go_enter Tryd.func4, Tryd.ntmps4
        go_upto_region 1 with fail
        rw [← HW0.out]
        go_upto_region 3 with (go_at_call 6; have HX := HS1.out _ D0.out; (with_reducible refine HX.mono ?_); clear HX; rintro e w_D1 ⟨rfl, hb⟩; have D1 := Lib.hid (thru D0.out hb); obtain ⟨x10, x11, x12, x13⟩ := HSB.out _ D1.out; clear hb)
        go_upto_region 4 with (go_at_call 8; have HX := HXp.out _ D1.out; (with_reducible refine HX.mono ?_); clear HX; rintro e w1 ⟨a1, a2, a3, a4, rfl, hp, hb⟩; obtain ⟨A1, c1, rfl, -, -⟩ := hp.en.slice; obtain ⟨A2, c2, rfl, -, -⟩ := hp.va.slice; obtain ⟨A3, c3, rfl, hcz, hlz, hat3⟩ := hp.pr; obtain ⟨A4, c4, rfl, -, -⟩ := hp.mn.slice; have C1 := Lib.hid (thru D1.out hb); have P1 := Lib.hid hp; have HAt3 := Lib.hid hat3; have HLim3 := Lib.hid hlz; clear hb hp hat3)
        have hz3 : p.procs.length ≤ 35184372088832 := by omega
        clear hlz
        obtain ⟨r, hr⟩ : ∃ r, p.procs.length = r := ⟨_, rfl⟩
        have HR := Lib.hid hr
        rw [hr] at hcz hz3 HLim3 P1 ⊢
        clear hr
        obtain ⟨W2, hW2⟩ : ∃ W2, W2 = w1.alloc (.cells #[.slice A1 p.enums.length c1, .slice A2 p.vars.length c2, .slice A3 r c3, .slice A4 p.main.length c4] 35) := ⟨_, rfl⟩
        have E2 : Hid (Below w1.heap.size w1 W2) := Lib.hid (by rw [hW2]; exact (Below.refl _ _).alloc (Nat.le_refl _) _)
        have K5 : Hid (Blk W2 w1.heap.size 35 #[.slice A1 p.enums.length c1, .slice A2 p.vars.length c2, .slice A3 r c3, .slice A4 p.main.length c4]) := Lib.hid (by rw [hW2]; exact Blk.new w1 _ _)
        rw [← hW2]
        clear hW2 hg1 hg2 hg3 HS1 HW0 x0 x1 x2 x3 x10 x11 x12 x13
        have HS5 : Hid (∀ w', Below W2.heap.size W2 w' → w'.cell? ⟨w1.heap.size, 0, none⟩ = some (.slice A1 p.enums.length c1) ∧ w'.cell? ⟨w1.heap.size, 1, none⟩ = some (.slice A2 p.vars.length c2) ∧ w'.cell? ⟨w1.heap.size, 2, none⟩ = some (.slice A3 r c3) ∧ w'.cell? ⟨w1.heap.size, 3, none⟩ = some (.slice A4 p.main.length c4)) := Lib.hid fun w' hb => ⟨(K5.out.below hb K5.out.lt).cell 0, (K5.out.below hb K5.out.lt).cell 1, (K5.out.below hb K5.out.lt).cell 2, (K5.out.below hb K5.out.lt).cell 3⟩
        have HSK : Hid (∀ w', Blk w' w1.heap.size 35 #[.slice A1 p.enums.length c1, .slice A2 p.vars.length c2, .slice A3 r c3, .slice A4 p.main.length c4] → w'.cell? ⟨w1.heap.size, 0, none⟩ = some (.slice A1 p.enums.length c1) ∧ w'.cell? ⟨w1.heap.size, 1, none⟩ = some (.slice A2 p.vars.length c2) ∧ w'.cell? ⟨w1.heap.size, 2, none⟩ = some (.slice A3 r c3) ∧ w'.cell? ⟨w1.heap.size, 3, none⟩ = some (.slice A4 p.main.length c4)) := Lib.hid fun w' h => ⟨h.cell 0, h.cell 1, h.cell 2, h.cell 3⟩
        have B1 : Hid (Below W2.heap.size W2 W2.drew) := Lib.hid (Below.refl _ _).drew
        have S1 := Lib.hid (HS5.out _ B1.out)
        have HP2 : Hid (∀ w', Below W2.heap.size W2 w' → PgR (fun b => b < w1.heap.size) n w' p (.slice A1 p.enums.length c1) (.slice A2 p.vars.length c2) (.slice A3 r c3) (.slice A4 p.main.length c4)) := Lib.hid fun w' hb => P1.out.below (thru E2.out hb) (fun b h => h)
        have HCm : Hid (∀ w2, Below W2.heap.size W2 w2 → Calls Tryd.prog 15 #[.slice A4 p.main.length c4, .int .i64 d] w2 (fun e w' => ∃ u, e = .returned u ∧ StR (fun b => w2.heap.size ≤ b ∧ b < w'.heap.size) n w' (mvB d p.main) u ∧ Below w2.heap.size w2 w')) := Lib.hid fun w2 hb => movedS_any d n p.main _ (fun b => b < w1.heap.size) w2 (HP2.out _ hb).mn (lo_up (fun b h => h) (thru E2.out hb).size)
        go_cut [6] (fun t6 wx => CutY W2 n d (.slice A1 p.enums.length c1) (.slice A2 p.vars.length c2) p.main t6 wx)
        case first =>
          refine wp_region_held_drew (S := fun w' => w'.cell? ⟨w1.heap.size, 0, none⟩ = some (.slice A1 p.enums.length c1) ∧ w'.cell? ⟨w1.heap.size, 1, none⟩ = some (.slice A2 p.vars.length c2) ∧ w'.cell? ⟨w1.heap.size, 2, none⟩ = some (.slice A3 r c3) ∧ w'.cell? ⟨w1.heap.size, 3, none⟩ = some (.slice A4 p.main.length c4)) (by kernel_rfl) S1.out (fun k0 => ?_)
          refine wpAnyH_take (i := 0) (oi := ⟨some 23, _, _, _, _, _⟩) (v := ?_) rfl (by kernel_rfl) (by kernel_rfl) (by kernel_rfl) (fun _ _ _ h => h) (Or.inl ⟨by rfl, ?_⟩) k0 ?_
          rotate_left
          · intro w hSw
            try dsimp only at hSw
            go_simp
            try with_reducible rfl
          try simp only [Act.put, List.setIfInBounds_toArray, List.set_cons_zero, List.set_cons_succ]
          refine wpAnyH_take (i := 1) (oi := ⟨some 24, _, _, _, _, _⟩) (v := ?_) rfl (by kernel_rfl) (by kernel_rfl) (by kernel_rfl) (fun _ _ _ h => h) (Or.inl ⟨by rfl, ?_⟩) k0 ?_
          rotate_left
          · intro w hSw
            try dsimp only at hSw
            go_simp
            try with_reducible rfl
          try simp only [Act.put, List.setIfInBounds_toArray, List.set_cons_zero, List.set_cons_succ]
          refine wpAnyH_take (i := 2) (oi := ⟨some 25, _, _, _, _, _⟩) (v := ?_) rfl (by kernel_rfl) (by kernel_rfl) (by kernel_rfl) (fun _ _ _ h => h) (Or.inl ⟨by rfl, ?_⟩) k0 ?_
          rotate_left
          · intro w hSw
            try dsimp only at hSw
            go_simp
            try with_reducible rfl
          try simp only [Act.put, List.setIfInBounds_toArray, List.set_cons_zero, List.set_cons_succ]
          refine wpAnyH_take (i := 3) (oi := ⟨some 26, _, _, _, _, _⟩) (v := ?_) rfl (by kernel_rfl) (by kernel_rfl) (by kernel_rfl) (fun _ _ _ h => h) (Or.inl ⟨by rfl, ?_⟩) k0 ?_
          rotate_left
          · intro w hSw
            try dsimp only at hSw
            go_simp
            try with_reducible rfl
          try simp only [Act.put, List.setIfInBounds_toArray, List.set_cons_zero, List.set_cons_succ]
          refine wpAnyH_take (i := 4) (oi := ⟨some 27, _, _, _, _, _⟩) (v := ?_) rfl (by kernel_rfl) (by kernel_rfl) (by kernel_rfl) (fun _ _ _ h => h) (Or.inl ⟨by rfl, ?_⟩) k0 ?_
          rotate_left
          · intro w hSw
            try dsimp only at hSw
            go_simp
            try with_reducible rfl
          try simp only [Act.put, List.setIfInBounds_toArray, List.set_cons_zero, List.set_cons_succ]
          refine wpAnyH_take (i := 5) (oi := ⟨some 28, _, _, _, _, _⟩) (v := ?_) rfl (by kernel_rfl) (by kernel_rfl) (by kernel_rfl) (fun _ _ _ h => h) (Or.inl ⟨by rfl, ?_⟩) k0 ?_
          rotate_left
          · intro w hSw
            try dsimp only at hSw
            go_simp
            try with_reducible rfl
          try simp only [Act.put, List.setIfInBounds_toArray, List.set_cons_zero, List.set_cons_succ]
          refine wpAnyH_take (i := 6) (oi := ⟨some 29, _, _, _, _, _⟩) (v := ?_) rfl (by kernel_rfl) (by kernel_rfl) (by kernel_rfl) (fun _ _ _ h => h) (Or.inl ⟨by rfl, ?_⟩) k0 ?_
          rotate_left
          · intro w hSw
            try dsimp only at hSw
            go_simp
            try with_reducible rfl
          try simp only [Act.put, List.setIfInBounds_toArray, List.set_cons_zero, List.set_cons_succ]
          refine wpAnyH_ready (rs := [7, 9]) (by kernel_rfl) (by simp) ?_
          refine (AllReadyH.cons (o := ⟨some 30, _, _, _, _, _⟩) rfl (fun K' hK => ?_) (AllReadyH.cons (o := ⟨some 6, _, _, _, _, _⟩) rfl (fun K' hK => ?_) AllReadyH.nil))
          · go_simp
            refine (HCm.out _ B1.out).mono ?_
            rintro e w3 ⟨u, rfl, hu, hb⟩
            have B3 : Hid (Below W2.heap.size W2 w3) := Lib.hid (thru B1.out hb)
            have S3 := Lib.hid (HS5.out _ B3.out)
            have R3 := Lib.hid hu
            have D3 := Lib.hid hb
            obtain ⟨AM, cM, rfl, -, -⟩ := hu.slice
            clear hb hu
            go_wp2_with fail
            refine hK.out _ _ S3.out (fun h1 => ?_)
            clear hK K'
            try simp only [Act.put, List.setIfInBounds_toArray, List.set_cons_zero, List.set_cons_succ]
            refine wpAnyH_take (i := 8) (oi := ⟨some 31, _, _, _, _, _⟩) (v := ?_) rfl (by kernel_rfl) (by kernel_rfl) (by kernel_rfl) (fun _ _ _ h => h) (Or.inl ⟨by rfl, ?_⟩) h1 ?_
            rotate_left
            · intro w hSw
              try dsimp only at hSw
              go_simp
              try with_reducible rfl
            try simp only [Act.put, List.setIfInBounds_toArray, List.set_cons_zero, List.set_cons_succ]
            refine wpAnyH_ready (rs := [9]) (by kernel_rfl) (by simp) ?_
            refine (AllReadyH.cons (o := ⟨some 6, _, _, _, _, _⟩) rfl (fun K' hK => ?_) AllReadyH.nil)
            have D4 : Hid (Below w3.heap.size w3 (w3.alloc (.cells #[.slice none 0 0, .slice none 0 0, .slice none 0 0, .slice none 0 0] 35))) := Lib.hid ((Below.refl _ _).alloc (Nat.le_refl _) _)
            have B4 : Hid (Below W2.heap.size W2 (w3.alloc (.cells #[.slice none 0 0, .slice none 0 0, .slice none 0 0, .slice none 0 0] 35))) := Lib.hid (thru B3.out D4.out)
            have Z4 := Lib.hid (Blk.new w3 35 #[.slice none 0 0, .slice none 0 0, .slice none 0 0, .slice none 0 0])
            have S4 := Lib.hid (HS5.out _ B4.out)
            have E4 : Hid ((w3.alloc (.cells #[.slice none 0 0, .slice none 0 0, .slice none 0 0, .slice none 0 0] 35)).heap.size = w3.heap.size + 1) := Lib.hid (by rw [World.size_alloc])
            go_simp
            refine hK.out _ _ S4.out (fun h2 => ?_)
            clear hK K'
            try simp only [Act.put, List.setIfInBounds_toArray, List.set_cons_zero, List.set_cons_succ]
            obtain ⟨wz, hwz⟩ : ∃ wz, wz = w3.alloc (.cells #[.slice none 0 0, .slice none 0 0, .slice none 0 0, .slice none 0 0] 35) := ⟨_, rfl⟩
            obtain ⟨pz, hpz⟩ : ∃ pz, pz = w3.heap.size := ⟨_, rfl⟩
            have Bz : Hid (Below W2.heap.size W2 wz) := Lib.hid (by rw [hwz]; exact B4.out)
            have KBz := Lib.hid (K5.out.below Bz.out K5.out.lt)
            have ZZ : Hid (Blk wz pz 35 #[.slice none 0 0, .slice none 0 0, .slice none 0 0, .slice none 0 0]) := Lib.hid (by rw [hwz, hpz]; exact Z4.out)
            have PZ : Hid (W2.heap.size ≤ pz ∧ pz < wz.heap.size) := Lib.hid ⟨by rw [hpz]; exact B3.out.size, ZZ.out.lt⟩
            have NEz : Hid (w1.heap.size ≠ pz) := Lib.hid (Nat.ne_of_lt (Nat.lt_of_lt_of_le K5.out.lt PZ.out.1))
            have RZ : Hid (StR (fun b => W2.heap.size ≤ b ∧ b < wz.heap.size ∧ b ≠ pz) n wz (mvB d p.main) (.slice AM (mvB d p.main).length cM)) := Lib.hid (by rw [hwz, hpz]; exact (R3.out.below D4.out (fun b q => q.2)).wide (fun b q => ⟨Nat.le_trans B1.out.size q.1, Nat.lt_of_lt_of_le q.2 D4.out.size, Nat.ne_of_lt q.2⟩))
            rw [← hwz, ← hpz]
            clear hwz hpz
            refine wpAnyH_ready (rs := [10]) (by kernel_rfl) (by simp) ?_
            refine (AllReadyH.cons (o := ⟨none, _, _, _, _, _⟩) rfl (fun K' hK => ?_) AllReadyH.nil)
            have t0 := ZZ.out.cell 0
            have t1 := ZZ.out.cell 1
            have t2 := ZZ.out.cell 2
            have t3 := ZZ.out.cell 3
            have f0 := ZZ.out.frozen 0
            have f1 := ZZ.out.frozen 1
            have f2 := ZZ.out.frozen 2
            have f3 := ZZ.out.frozen 3
            have fl := ZZ.out.lt
            simp at t0 t1 t2 t3
            have KZ6 := Lib.hid (HSK.out _ ((((KBz.out.far (p := ⟨pz, 0, none⟩) NEz.out (.slice A1 p.enums.length c1)).far (p := ⟨pz, 1, none⟩) NEz.out (.slice A2 p.vars.length c2)).far (p := ⟨pz, 2, none⟩) NEz.out (.slice none 0 0)).far (p := ⟨pz, 3, none⟩) NEz.out (.slice AM (mvB d p.main).length cM)))
            go_simp
            refine hK.out _ _ KZ6.out (fun h9 => ?_)
            clear hK K'
            try simp only [Act.put, List.setIfInBounds_toArray, List.set_cons_zero, List.set_cons_succ]
            clear t0 t1 t2 t3 f0 f1 f2 f3 fl
            refine wpAnyH_done (by kernel_rfl) ?_ _
            have YS := Lib.hid (yi_start n (A1 := (.slice A1 p.enums.length c1)) (A2 := (.slice A2 p.vars.length c2)) Bz.out PZ.out.1 PZ.out.2 ZZ.out RZ.out)
            go_wp2_with fail
            go_meet
            exact ⟨pz, wz.heap.size, AM, cM, rfl, YS.out⟩
          · have D4 : Hid (Below W2.drew.heap.size W2.drew (W2.drew.alloc (.cells #[.slice none 0 0, .slice none 0 0, .slice none 0 0, .slice none 0 0] 35))) := Lib.hid ((Below.refl _ _).alloc (Nat.le_refl _) _)
            have B4 : Hid (Below W2.heap.size W2 (W2.drew.alloc (.cells #[.slice none 0 0, .slice none 0 0, .slice none 0 0, .slice none 0 0] 35))) := Lib.hid (thru B1.out D4.out)
            have Z4 := Lib.hid (Blk.new W2.drew 35 #[.slice none 0 0, .slice none 0 0, .slice none 0 0, .slice none 0 0])
            have S4 := Lib.hid (HS5.out _ B4.out)
            have E4 : Hid ((W2.drew.alloc (.cells #[.slice none 0 0, .slice none 0 0, .slice none 0 0, .slice none 0 0] 35)).heap.size = W2.drew.heap.size + 1) := Lib.hid (by rw [World.size_alloc])
            go_simp
            refine hK.out _ _ S4.out (fun h1 => ?_)
            clear hK K'
            try simp only [Act.put, List.setIfInBounds_toArray, List.set_cons_zero, List.set_cons_succ]
            refine wpAnyH_ready (rs := [7]) (by kernel_rfl) (by simp) ?_
            refine (AllReadyH.cons (o := ⟨some 30, _, _, _, _, _⟩) rfl (fun K' hK => ?_) AllReadyH.nil)
            go_simp
            refine (HCm.out _ B4.out).mono ?_
            rintro e w3 ⟨u, rfl, hu, hb⟩
            have B3 : Hid (Below W2.heap.size W2 w3) := Lib.hid (thru B4.out hb)
            have S3 := Lib.hid (HS5.out _ B3.out)
            have R3 := Lib.hid hu
            have D3 := Lib.hid hb
            obtain ⟨AM, cM, rfl, -, -⟩ := hu.slice
            clear hb hu
            go_wp2_with fail
            refine hK.out _ _ S3.out (fun h2 => ?_)
            clear hK K'
            try simp only [Act.put, List.setIfInBounds_toArray, List.set_cons_zero, List.set_cons_succ]
            refine wpAnyH_take (i := 8) (oi := ⟨some 31, _, _, _, _, _⟩) (v := ?_) rfl (by kernel_rfl) (by kernel_rfl) (by kernel_rfl) (fun _ _ _ h => h) (Or.inl ⟨by rfl, ?_⟩) h2 ?_
            rotate_left
            · intro w hSw
              try dsimp only at hSw
              go_simp
              try with_reducible rfl
            try simp only [Act.put, List.setIfInBounds_toArray, List.set_cons_zero, List.set_cons_succ]
            obtain ⟨wz, hwz⟩ : ∃ wz, wz = w3 := ⟨_, rfl⟩
            obtain ⟨pz, hpz⟩ : ∃ pz, pz = W2.heap.size := ⟨_, rfl⟩
            have Bz : Hid (Below W2.heap.size W2 wz) := Lib.hid (by rw [hwz]; exact B3.out)
            have KBz := Lib.hid (K5.out.below Bz.out K5.out.lt)
            have ZZ : Hid (Blk wz pz 35 #[.slice none 0 0, .slice none 0 0, .slice none 0 0, .slice none 0 0]) := Lib.hid (by rw [hwz, hpz]; exact Z4.out.below D3.out Z4.out.lt)
            have PZ : Hid (W2.heap.size ≤ pz ∧ pz < wz.heap.size) := Lib.hid ⟨by rw [hpz]; exact Nat.le_refl _, ZZ.out.lt⟩
            have NEz : Hid (w1.heap.size ≠ pz) := Lib.hid (Nat.ne_of_lt (Nat.lt_of_lt_of_le K5.out.lt PZ.out.1))
            have RZ : Hid (StR (fun b => W2.heap.size ≤ b ∧ b < wz.heap.size ∧ b ≠ pz) n wz (mvB d p.main) (.slice AM (mvB d p.main).length cM)) := Lib.hid (by rw [hwz, hpz]; exact R3.out.wide (fun b q => ⟨Nat.le_trans B4.out.size q.1, q.2, fun e => absurd q.1 (by rw [e, E4.out]; exact Nat.not_succ_le_self _)⟩))
            rw [← hwz, ← hpz]
            clear hwz hpz
            refine wpAnyH_ready (rs := [10]) (by kernel_rfl) (by simp) ?_
            refine (AllReadyH.cons (o := ⟨none, _, _, _, _, _⟩) rfl (fun K' hK => ?_) AllReadyH.nil)
            have t0 := ZZ.out.cell 0
            have t1 := ZZ.out.cell 1
            have t2 := ZZ.out.cell 2
            have t3 := ZZ.out.cell 3
            have f0 := ZZ.out.frozen 0
            have f1 := ZZ.out.frozen 1
            have f2 := ZZ.out.frozen 2
            have f3 := ZZ.out.frozen 3
            have fl := ZZ.out.lt
            simp at t0 t1 t2 t3
            have KZ6 := Lib.hid (HSK.out _ ((((KBz.out.far (p := ⟨pz, 0, none⟩) NEz.out (.slice A1 p.enums.length c1)).far (p := ⟨pz, 1, none⟩) NEz.out (.slice A2 p.vars.length c2)).far (p := ⟨pz, 2, none⟩) NEz.out (.slice none 0 0)).far (p := ⟨pz, 3, none⟩) NEz.out (.slice AM (mvB d p.main).length cM)))
            go_simp
            refine hK.out _ _ KZ6.out (fun h9 => ?_)
            clear hK K'
            try simp only [Act.put, List.setIfInBounds_toArray, List.set_cons_zero, List.set_cons_succ]
            clear t0 t1 t2 t3 f0 f1 f2 f3 fl
            refine wpAnyH_done (by kernel_rfl) ?_ _
            have YS := Lib.hid (yi_start n (A1 := (.slice A1 p.enums.length c1)) (A2 := (.slice A2 p.vars.length c2)) Bz.out PZ.out.1 PZ.out.2 ZZ.out RZ.out)
            go_wp2_with fail
            go_meet
            exact ⟨pz, wz.heap.size, AM, cM, rfl, YS.out⟩
        case rest =>
          obtain ⟨pz, H, AM, cM, rfl, hY⟩ := hcut
          have Y0 := Lib.hid hY
          clear hY S1
          obtain ⟨y0, y1, y2, y3⟩ := HS5.out _ Y0.out.low
          go_wp2_with fail
          clear y0 y1 y2 y3
          go_loopw [35] (fun i wr => ∃ (k : Nat) (z : Value), i = .int .i64 (k : Int) ∧ k ≤ r ∧ YI W2 pz H n (.slice A1 p.enums.length c1) (.slice A2 p.vars.length c2) z (.slice AM (mvB d p.main).length cM) (mvB d p.main) ((p.procs.map (mvQ d)).take k) z wr) (fun i _ => r - (RowKit.intOf i).toNat)
          case atStart => exact ⟨0, .slice none 0 0, rfl, Nat.zero_le _, by rw [List.take_zero]; exact Y0.out⟩
          case round =>
            obtain ⟨k, z, rfl, hk, hyi⟩ := hrel
            clear Y0
            have YR := Lib.hid hyi
            clear hyi
            by_cases hlt : k < r
            · obtain ⟨x, hx⟩ : ∃ x, p.procs[k]? = some x := ⟨p.procs[k]'(by rw [HR.out]; exact hlt), List.getElem?_eq_getElem _⟩
              obtain ⟨b, off, L, rfl, hbB, hcc, hstr⟩ := HAt3.out k x hx
              have BR : Hid (Below w1.heap.size w1 wr) := Lib.hid (thru E2.out YR.out.low)
              obtain ⟨x0, x1⟩ := keep2 hcc (BR.out.block b hbB)
              obtain ⟨AL, cL, rfl, -, -⟩ := hstr.slice
              have HX : Hid ((p.procs.map (mvQ d))[k]? = some (mvQ d x)) := Lib.hid (by rw [List.getElem?_map, hx]; rfl)
              have HTl : Hid (((p.procs.map (mvQ d)).take k).length = k) := Lib.hid (by rw [List.length_take, List.length_map, HR.out]; omega)
              obtain ⟨W3, hW3⟩ : ∃ W3, W3 = wr.alloc (.cells #[.string x.1, .slice AL x.2.length cL] 47) := ⟨_, rfl⟩
              have B3 : Hid (Below wr.heap.size wr W3) := Lib.hid (by rw [hW3]; exact (Below.refl _ _).alloc (Nat.le_refl _) _)
              have KB3 : Hid (Blk W3 wr.heap.size 47 #[.string x.1, .slice AL x.2.length cL]) := Lib.hid (by rw [hW3]; exact Blk.new wr _ _)
              have X3 := Lib.hid (YR.out.below B3.out)
              have B8 : Hid (Below W3.heap.size W3 W3.drew) := Lib.hid (Below.refl _ _).drew
              have HVl := Lib.hid (fun g e => (YR.out.own.lt g e).2)
              have HGt : Hid (pz < wr.heap.size) := Lib.hid (Nat.lt_of_lt_of_le YR.out.pH YR.out.hs)
              have HCx : Hid (∀ w2, Below W3.heap.size W3 w2 → Calls Tryd.prog 15 #[.slice AL x.2.length cL, .int .i64 d] w2 (fun e w' => ∃ u, e = .returned u ∧ StR (fun b => w2.heap.size ≤ b ∧ b < w'.heap.size) n w' (mvB d x.2) u ∧ Below w2.heap.size w2 w')) := Lib.hid fun w2 hb2 => by
                have q := thru (thru BR.out B3.out) hb2
                exact movedS_any d n x.2 _ (fun b => b < w1.heap.size) w2 (hstr.below q (fun b h => h)) (lo_up (fun b h => h) q.size)
              have HS2 : Hid (∀ w', Blk w' wr.heap.size 47 #[.string x.1, .slice AL x.2.length cL] → (w'.cell? ⟨wr.heap.size, 0, none⟩ = some (.string x.1) ∧ w'.cell? ⟨wr.heap.size, 1, none⟩ = some (.slice AL x.2.length cL))) := Lib.hid fun w' h => ⟨h.cell 0, h.cell 1⟩
              have K0 := Lib.hid (HS2.out _ (KB3.out.below B8.out KB3.out.lt))
              have HW3 := Lib.hid hW3
              clear hcc hstr hx hW3
              go_upto_region 8 with fail
              rw [← HW3.out]
              clear x0 x1
              refine wp_region_held_drew (S := fun w' => w'.cell? ⟨wr.heap.size, 0, none⟩ = some (.string x.1) ∧ w'.cell? ⟨wr.heap.size, 1, none⟩ = some (.slice AL x.2.length cL)) (by kernel_rfl) K0.out (fun k0 => ?_)
              refine wpAnyH_take (i := 0) (oi := ⟨some 39, _, _, _, _, _⟩) (v := ?_) rfl (by kernel_rfl) (by kernel_rfl) (by kernel_rfl) (fun _ _ _ h => h) (Or.inl ⟨by rfl, ?_⟩) k0 ?_
              rotate_left
              · intro w hSw
                try dsimp only at hSw
                go_simp
                try with_reducible rfl
              try simp only [Act.put, List.setIfInBounds_toArray, List.set_cons_zero, List.set_cons_succ]
              refine wpAnyH_take (i := 2) (oi := ⟨some 41, _, _, _, _, _⟩) (v := ?_) rfl (by kernel_rfl) (by kernel_rfl) (by kernel_rfl) (fun _ _ _ h => h) (Or.inl ⟨by rfl, ?_⟩) k0 ?_
              rotate_left
              · intro w hSw
                try dsimp only at hSw
                go_simp
                try with_reducible rfl
              try simp only [Act.put, List.setIfInBounds_toArray, List.set_cons_zero, List.set_cons_succ]
              refine wpAnyH_take (i := 3) (oi := ⟨some 42, _, _, _, _, _⟩) (v := ?_) rfl (by kernel_rfl) (by kernel_rfl) (by kernel_rfl) (fun _ _ _ h => h) (Or.inl ⟨by rfl, ?_⟩) k0 ?_
              rotate_left
              · intro w hSw
                try dsimp only at hSw
                go_simp
                try with_reducible rfl
              try simp only [Act.put, List.setIfInBounds_toArray, List.set_cons_zero, List.set_cons_succ]
              refine wpAnyH_take (i := 4) (oi := ⟨some 43, _, _, _, _, _⟩) (v := ?_) rfl (by kernel_rfl) (by kernel_rfl) (by kernel_rfl) (fun _ _ _ h => h) (Or.inl ⟨by rfl, ?_⟩) k0 ?_
              rotate_left
              · intro w hSw
                try dsimp only at hSw
                go_simp
                try with_reducible rfl
              try simp only [Act.put, List.setIfInBounds_toArray, List.set_cons_zero, List.set_cons_succ]
              refine wpAnyH_take (i := 5) (oi := ⟨some 44, _, _, _, _, _⟩) (v := ?_) rfl (by kernel_rfl) (by kernel_rfl) (by kernel_rfl) (fun _ _ _ h => h) (Or.inl ⟨by rfl, ?_⟩) k0 ?_
              rotate_left
              · intro w hSw
                try dsimp only at hSw
                go_simp
                try with_reducible rfl
              try simp only [Act.put, List.setIfInBounds_toArray, List.set_cons_zero, List.set_cons_succ]
              refine wpAnyH_take (i := 6) (oi := ⟨some 45, _, _, _, _, _⟩) (v := ?_) rfl (by kernel_rfl) (by kernel_rfl) (by kernel_rfl) (fun _ _ _ h => h) (Or.inl ⟨by rfl, ?_⟩) k0 ?_
              rotate_left
              · intro w hSw
                try dsimp only at hSw
                go_simp
                try with_reducible rfl
              try simp only [Act.put, List.setIfInBounds_toArray, List.set_cons_zero, List.set_cons_succ]
              refine wpAnyH_ready (rs := [1, 7]) (by kernel_rfl) (by simp) ?_
              refine (AllReadyH.cons (o := ⟨some 40, _, _, _, _, _⟩) rfl (fun K' hK => ?_) (AllReadyH.cons (o := ⟨some 46, _, _, _, _, _⟩) rfl (fun K' hK => ?_) AllReadyH.nil))
              · have tf : W3.drew.cell? ⟨pz, 2, none⟩ = some z := X3.out.box.cell 2
                go_simp
                refine hK.out _ _ K0.out (fun h1 => ?_)
                clear hK K'
                try simp only [Act.put, List.setIfInBounds_toArray, List.set_cons_zero, List.set_cons_succ]
                clear tf
                refine wpAnyH_ready (rs := [7]) (by kernel_rfl) (by simp) ?_
                refine (AllReadyH.cons (o := ⟨some 46, _, _, _, _, _⟩) rfl (fun K' hK => ?_) AllReadyH.nil)
                go_simp
                refine (HCx.out _ B8.out).mono ?_
                rintro e w8 ⟨L7, rfl, hL7, hb⟩
                have B9 : Hid (Below W3.heap.size W3 w8) := Lib.hid (thru B8.out hb)
                have X8 := Lib.hid (X3.out.below B9.out)
                have KB8 := Lib.hid (KB3.out.below B9.out KB3.out.lt)
                have K8 := Lib.hid (HS2.out _ KB8.out)
                have HL7 := Lib.hid hL7
                obtain ⟨A7, c7, rfl, -, -⟩ := hL7.slice
                clear hb hL7
                go_wp2_with fail
                refine hK.out _ _ K8.out (fun h2 => ?_)
                clear hK K'
                try simp only [Act.put, List.setIfInBounds_toArray, List.set_cons_zero, List.set_cons_succ]
                refine wpAnyH_take (i := 8) (oi := ⟨some 47, _, _, _, _, _⟩) (v := ?_) rfl (by kernel_rfl) (by kernel_rfl) (by kernel_rfl) (fun _ _ _ h => h) (Or.inl ⟨by rfl, ?_⟩) h2 ?_
                rotate_left
                · intro w hSw
                  try dsimp only at hSw
                  go_simp
                  try with_reducible rfl
                try simp only [Act.put, List.setIfInBounds_toArray, List.set_cons_zero, List.set_cons_succ]
                refine wpAnyH_ready (rs := [9]) (by kernel_rfl) (by simp) ?_
                refine (AllReadyH.cons (o := ⟨some 48, _, _, _, _, _⟩) rfl (fun K' hK => ?_) AllReadyH.nil)
                have B10 : Hid (Below w8.heap.size w8 (w8.alloc (.cells #[.string x.1, .slice A7 (mvB d x.2).length c7] 47))) := Lib.hid ((Below.refl _ _).alloc (Nat.le_refl _) _)
                have X9 := Lib.hid (X8.out.below B10.out)
                have KB9 := Lib.hid (KB8.out.below B10.out KB8.out.lt)
                have K9 := Lib.hid (HS2.out _ KB9.out)
                have N9 := Lib.hid (Blk.new w8 47 #[.string x.1, .slice A7 (mvB d x.2).length c7])
                go_simp
                refine hK.out _ _ K9.out (fun h8 => ?_)
                clear hK K'
                try simp only [Act.put, List.setIfInBounds_toArray, List.set_cons_zero, List.set_cons_succ]
                refine wpAnyH_ready (rs := [10]) (by kernel_rfl) (by simp) ?_
                refine (AllReadyH.cons (o := ⟨some 49, _, _, _, _, _⟩) rfl (fun K' hK => ?_) AllReadyH.nil)
                obtain ⟨css, hcs1, hcs2, hcs3⟩ := X9.out.own
                rw [HTl.out] at hcs2
                rw [if_pos (by rfl)]
                refine wp_append_at (.tmp 40) (.tmp 48) 32 rfl H 47 i2 (.agg #[.string ⟨#[]⟩, .slice none 0 0]) 2 40 Tryd.underlying32 HI2.out.1 HI2.out.2.1 HI2.out.2.2.1 HI2.out.2.2.2 rfl (by decide) z k css.flatten rfl hcs2 ⟨w8.heap.size, 0, none⟩ 1 1 [.string x.1, .slice A7 (mvB d x.2).length c7] rfl rfl (news_two N9.out) (one_two _ _ _ _) (by unfold maxLen; omega) (by have := HLim3.out; omega) X9.out.hs ?_
                intro v5 w5 ho hg hv
                have X5 := Lib.hid (X9.out.more HX.out hcs1 hcs3 hcs2 ho hg hv ⟨rfl, _, rfl, (HL7.out.below B10.out (fun b q => q.2)).wide (fun b q => ⟨Nat.le_trans X3.out.hs (Nat.le_trans B8.out.size q.1), Nat.lt_of_lt_of_le q.2 B10.out.size, fun e => absurd (X3.out.own.lt b e).2 (Nat.not_lt.2 (Nat.le_trans B8.out.size q.1))⟩)⟩)
                have KB5 : Hid (Blk w5 wr.heap.size 47 #[.string x.1, .slice AL x.2.length cL]) := Lib.hid (KB9.out.grown hg (fun e => absurd (HVl.out _ e.symm) (Nat.lt_irrefl _)))
                have K5a := Lib.hid (HS2.out _ KB5.out)
                obtain ⟨A5, c5, rfl⟩ := row_slice ho
                clear ho hg hv hcs1 hcs2 hcs3
                refine hK.out _ _ K5a.out (fun h9 => ?_)
                clear hK K'
                try simp only [Act.put, List.setIfInBounds_toArray, List.set_cons_zero, List.set_cons_succ]
                refine wpAnyH_take (i := 11) (oi := ⟨some 50, _, _, _, _, _⟩) (v := ?_) rfl (by kernel_rfl) (by kernel_rfl) (by kernel_rfl) (fun _ _ _ h => h) (Or.inl ⟨by rfl, ?_⟩) h9 ?_
                rotate_left
                · intro w hSw
                  try dsimp only at hSw
                  go_simp
                  try with_reducible rfl
                try simp only [Act.put, List.setIfInBounds_toArray, List.set_cons_zero, List.set_cons_succ]
                refine wpAnyH_ready (rs := [12]) (by kernel_rfl) (by simp) ?_
                refine (AllReadyH.cons (o := ⟨none, _, _, _, _, _⟩) rfl (fun K' hK => ?_) AllReadyH.nil)
                have t0 := X5.out.box.cell 2
                have t1 := X5.out.box.frozen 2
                have t2 := X5.out.box.lt
                simp at t0
                have K6 := Lib.hid (HS2.out _ (KB5.out.far (p := ⟨pz, 2, none⟩) (Nat.ne_of_gt HGt.out) (.slice A5 (k + 1) c5)))
                go_simp
                refine hK.out _ _ K6.out (fun h10 => ?_)
                clear hK K'
                try simp only [Act.put, List.setIfInBounds_toArray, List.set_cons_zero, List.set_cons_succ]
                clear t0 t1 t2
                refine wpAnyH_done (by kernel_rfl) ?_ _
                have X6 := Lib.hid (X5.out.put)
                obtain ⟨w6, hw6⟩ : ∃ x, w5.setCell ⟨pz, 2, none⟩ (.slice A5 (k + 1) c5) = x := ⟨_, rfl⟩
                rw [hw6] at X6 ⊢
                clear hw6
                go_wp2_with fail
                go_roundw
                case rel => exact ⟨k + 1, .slice A5 (k + 1) c5, by go_num, hlt, X6.out⟩
                case measure => simp [RowKit.intOf]; omega
              · go_simp
                refine (HCx.out _ B8.out).mono ?_
                rintro e w8 ⟨L7, rfl, hL7, hb⟩
                have B9 : Hid (Below W3.heap.size W3 w8) := Lib.hid (thru B8.out hb)
                have X8 := Lib.hid (X3.out.below B9.out)
                have KB8 := Lib.hid (KB3.out.below B9.out KB3.out.lt)
                have K8 := Lib.hid (HS2.out _ KB8.out)
                have HL7 := Lib.hid hL7
                obtain ⟨A7, c7, rfl, -, -⟩ := hL7.slice
                clear hb hL7
                go_wp2_with fail
                refine hK.out _ _ K8.out (fun h2 => ?_)
                clear hK K'
                try simp only [Act.put, List.setIfInBounds_toArray, List.set_cons_zero, List.set_cons_succ]
                refine wpAnyH_take (i := 8) (oi := ⟨some 47, _, _, _, _, _⟩) (v := ?_) rfl (by kernel_rfl) (by kernel_rfl) (by kernel_rfl) (fun _ _ _ h => h) (Or.inl ⟨by rfl, ?_⟩) h2 ?_
                rotate_left
                · intro w hSw
                  try dsimp only at hSw
                  go_simp
                  try with_reducible rfl
                try simp only [Act.put, List.setIfInBounds_toArray, List.set_cons_zero, List.set_cons_succ]
                refine wpAnyH_ready (rs := [1, 9]) (by kernel_rfl) (by simp) ?_
                refine (AllReadyH.cons (o := ⟨some 40, _, _, _, _, _⟩) rfl (fun K' hK => ?_) (AllReadyH.cons (o := ⟨some 48, _, _, _, _, _⟩) rfl (fun K' hK => ?_) AllReadyH.nil))
                · have tf : w8.cell? ⟨pz, 2, none⟩ = some z := X8.out.box.cell 2
                  go_simp
                  refine hK.out _ _ K8.out (fun h3 => ?_)
                  clear hK K'
                  try simp only [Act.put, List.setIfInBounds_toArray, List.set_cons_zero, List.set_cons_succ]
                  clear tf
                  refine wpAnyH_ready (rs := [9]) (by kernel_rfl) (by simp) ?_
                  refine (AllReadyH.cons (o := ⟨some 48, _, _, _, _, _⟩) rfl (fun K' hK => ?_) AllReadyH.nil)
                  have B10 : Hid (Below w8.heap.size w8 (w8.alloc (.cells #[.string x.1, .slice A7 (mvB d x.2).length c7] 47))) := Lib.hid ((Below.refl _ _).alloc (Nat.le_refl _) _)
                  have X9 := Lib.hid (X8.out.below B10.out)
                  have KB9 := Lib.hid (KB8.out.below B10.out KB8.out.lt)
                  have K9 := Lib.hid (HS2.out _ KB9.out)
                  have N9 := Lib.hid (Blk.new w8 47 #[.string x.1, .slice A7 (mvB d x.2).length c7])
                  go_simp
                  refine hK.out _ _ K9.out (fun h4 => ?_)
                  clear hK K'
                  try simp only [Act.put, List.setIfInBounds_toArray, List.set_cons_zero, List.set_cons_succ]
                  refine wpAnyH_ready (rs := [10]) (by kernel_rfl) (by simp) ?_
                  refine (AllReadyH.cons (o := ⟨some 49, _, _, _, _, _⟩) rfl (fun K' hK => ?_) AllReadyH.nil)
                  obtain ⟨css, hcs1, hcs2, hcs3⟩ := X9.out.own
                  rw [HTl.out] at hcs2
                  rw [if_pos (by rfl)]
                  refine wp_append_at (.tmp 40) (.tmp 48) 32 rfl H 47 i2 (.agg #[.string ⟨#[]⟩, .slice none 0 0]) 2 40 Tryd.underlying32 HI2.out.1 HI2.out.2.1 HI2.out.2.2.1 HI2.out.2.2.2 rfl (by decide) z k css.flatten rfl hcs2 ⟨w8.heap.size, 0, none⟩ 1 1 [.string x.1, .slice A7 (mvB d x.2).length c7] rfl rfl (news_two N9.out) (one_two _ _ _ _) (by unfold maxLen; omega) (by have := HLim3.out; omega) X9.out.hs ?_
                  intro v5 w5 ho hg hv
                  have X5 := Lib.hid (X9.out.more HX.out hcs1 hcs3 hcs2 ho hg hv ⟨rfl, _, rfl, (HL7.out.below B10.out (fun b q => q.2)).wide (fun b q => ⟨Nat.le_trans X3.out.hs (Nat.le_trans B8.out.size q.1), Nat.lt_of_lt_of_le q.2 B10.out.size, fun e => absurd (X3.out.own.lt b e).2 (Nat.not_lt.2 (Nat.le_trans B8.out.size q.1))⟩)⟩)
                  have KB5 : Hid (Blk w5 wr.heap.size 47 #[.string x.1, .slice AL x.2.length cL]) := Lib.hid (KB9.out.grown hg (fun e => absurd (HVl.out _ e.symm) (Nat.lt_irrefl _)))
                  have K5a := Lib.hid (HS2.out _ KB5.out)
                  obtain ⟨A5, c5, rfl⟩ := row_slice ho
                  clear ho hg hv hcs1 hcs2 hcs3
                  refine hK.out _ _ K5a.out (fun h9 => ?_)
                  clear hK K'
                  try simp only [Act.put, List.setIfInBounds_toArray, List.set_cons_zero, List.set_cons_succ]
                  refine wpAnyH_take (i := 11) (oi := ⟨some 50, _, _, _, _, _⟩) (v := ?_) rfl (by kernel_rfl) (by kernel_rfl) (by kernel_rfl) (fun _ _ _ h => h) (Or.inl ⟨by rfl, ?_⟩) h9 ?_
                  rotate_left
                  · intro w hSw
                    try dsimp only at hSw
                    go_simp
                    try with_reducible rfl
                  try simp only [Act.put, List.setIfInBounds_toArray, List.set_cons_zero, List.set_cons_succ]
                  refine wpAnyH_ready (rs := [12]) (by kernel_rfl) (by simp) ?_
                  refine (AllReadyH.cons (o := ⟨none, _, _, _, _, _⟩) rfl (fun K' hK => ?_) AllReadyH.nil)
                  have t0 := X5.out.box.cell 2
                  have t1 := X5.out.box.frozen 2
                  have t2 := X5.out.box.lt
                  simp at t0
                  have K6 := Lib.hid (HS2.out _ (KB5.out.far (p := ⟨pz, 2, none⟩) (Nat.ne_of_gt HGt.out) (.slice A5 (k + 1) c5)))
                  go_simp
                  refine hK.out _ _ K6.out (fun h10 => ?_)
                  clear hK K'
                  try simp only [Act.put, List.setIfInBounds_toArray, List.set_cons_zero, List.set_cons_succ]
                  clear t0 t1 t2
                  refine wpAnyH_done (by kernel_rfl) ?_ _
                  have X6 := Lib.hid (X5.out.put)
                  obtain ⟨w6, hw6⟩ : ∃ x, w5.setCell ⟨pz, 2, none⟩ (.slice A5 (k + 1) c5) = x := ⟨_, rfl⟩
                  rw [hw6] at X6 ⊢
                  clear hw6
                  go_wp2_with fail
                  go_roundw
                  case rel => exact ⟨k + 1, .slice A5 (k + 1) c5, by go_num, hlt, X6.out⟩
                  case measure => simp [RowKit.intOf]; omega
                · have B10 : Hid (Below w8.heap.size w8 (w8.alloc (.cells #[.string x.1, .slice A7 (mvB d x.2).length c7] 47))) := Lib.hid ((Below.refl _ _).alloc (Nat.le_refl _) _)
                  have X9 := Lib.hid (X8.out.below B10.out)
                  have KB9 := Lib.hid (KB8.out.below B10.out KB8.out.lt)
                  have K9 := Lib.hid (HS2.out _ KB9.out)
                  have N9 := Lib.hid (Blk.new w8 47 #[.string x.1, .slice A7 (mvB d x.2).length c7])
                  go_simp
                  refine hK.out _ _ K9.out (fun h3 => ?_)
                  clear hK K'
                  try simp only [Act.put, List.setIfInBounds_toArray, List.set_cons_zero, List.set_cons_succ]
                  refine wpAnyH_ready (rs := [1]) (by kernel_rfl) (by simp) ?_
                  refine (AllReadyH.cons (o := ⟨some 40, _, _, _, _, _⟩) rfl (fun K' hK => ?_) AllReadyH.nil)
                  have tf : (w8.alloc (.cells #[.string x.1, .slice A7 (mvB d x.2).length c7] 47)).cell? ⟨pz, 2, none⟩ = some z := X9.out.box.cell 2
                  go_simp
                  refine hK.out _ _ K9.out (fun h4 => ?_)
                  clear hK K'
                  try simp only [Act.put, List.setIfInBounds_toArray, List.set_cons_zero, List.set_cons_succ]
                  clear tf
                  refine wpAnyH_ready (rs := [10]) (by kernel_rfl) (by simp) ?_
                  refine (AllReadyH.cons (o := ⟨some 49, _, _, _, _, _⟩) rfl (fun K' hK => ?_) AllReadyH.nil)
                  obtain ⟨css, hcs1, hcs2, hcs3⟩ := X9.out.own
                  rw [HTl.out] at hcs2
                  rw [if_pos (by rfl)]
                  refine wp_append_at (.tmp 40) (.tmp 48) 32 rfl H 47 i2 (.agg #[.string ⟨#[]⟩, .slice none 0 0]) 2 40 Tryd.underlying32 HI2.out.1 HI2.out.2.1 HI2.out.2.2.1 HI2.out.2.2.2 rfl (by decide) z k css.flatten rfl hcs2 ⟨w8.heap.size, 0, none⟩ 1 1 [.string x.1, .slice A7 (mvB d x.2).length c7] rfl rfl (news_two N9.out) (one_two _ _ _ _) (by unfold maxLen; omega) (by have := HLim3.out; omega) X9.out.hs ?_
                  intro v5 w5 ho hg hv
                  have X5 := Lib.hid (X9.out.more HX.out hcs1 hcs3 hcs2 ho hg hv ⟨rfl, _, rfl, (HL7.out.below B10.out (fun b q => q.2)).wide (fun b q => ⟨Nat.le_trans X3.out.hs (Nat.le_trans B8.out.size q.1), Nat.lt_of_lt_of_le q.2 B10.out.size, fun e => absurd (X3.out.own.lt b e).2 (Nat.not_lt.2 (Nat.le_trans B8.out.size q.1))⟩)⟩)
                  have KB5 : Hid (Blk w5 wr.heap.size 47 #[.string x.1, .slice AL x.2.length cL]) := Lib.hid (KB9.out.grown hg (fun e => absurd (HVl.out _ e.symm) (Nat.lt_irrefl _)))
                  have K5a := Lib.hid (HS2.out _ KB5.out)
                  obtain ⟨A5, c5, rfl⟩ := row_slice ho
                  clear ho hg hv hcs1 hcs2 hcs3
                  refine hK.out _ _ K5a.out (fun h9 => ?_)
                  clear hK K'
                  try simp only [Act.put, List.setIfInBounds_toArray, List.set_cons_zero, List.set_cons_succ]
                  refine wpAnyH_take (i := 11) (oi := ⟨some 50, _, _, _, _, _⟩) (v := ?_) rfl (by kernel_rfl) (by kernel_rfl) (by kernel_rfl) (fun _ _ _ h => h) (Or.inl ⟨by rfl, ?_⟩) h9 ?_
                  rotate_left
                  · intro w hSw
                    try dsimp only at hSw
                    go_simp
                    try with_reducible rfl
                  try simp only [Act.put, List.setIfInBounds_toArray, List.set_cons_zero, List.set_cons_succ]
                  refine wpAnyH_ready (rs := [12]) (by kernel_rfl) (by simp) ?_
                  refine (AllReadyH.cons (o := ⟨none, _, _, _, _, _⟩) rfl (fun K' hK => ?_) AllReadyH.nil)
                  have t0 := X5.out.box.cell 2
                  have t1 := X5.out.box.frozen 2
                  have t2 := X5.out.box.lt
                  simp at t0
                  have K6 := Lib.hid (HS2.out _ (KB5.out.far (p := ⟨pz, 2, none⟩) (Nat.ne_of_gt HGt.out) (.slice A5 (k + 1) c5)))
                  go_simp
                  refine hK.out _ _ K6.out (fun h10 => ?_)
                  clear hK K'
                  try simp only [Act.put, List.setIfInBounds_toArray, List.set_cons_zero, List.set_cons_succ]
                  clear t0 t1 t2
                  refine wpAnyH_done (by kernel_rfl) ?_ _
                  have X6 := Lib.hid (X5.out.put)
                  obtain ⟨w6, hw6⟩ : ∃ x, w5.setCell ⟨pz, 2, none⟩ (.slice A5 (k + 1) c5) = x := ⟨_, rfl⟩
                  rw [hw6] at X6 ⊢
                  clear hw6
                  go_wp2_with fail
                  go_roundw
                  case rel => exact ⟨k + 1, .slice A5 (k + 1) c5, by go_num, hlt, X6.out⟩
                  case measure => simp [RowKit.intOf]; omega
            · have he : k = r := by omega
              subst he
              have hT : (p.procs.map (mvQ d)).take k = p.procs.map (mvQ d) := by rw [List.take_of_length_le (by rw [List.length_map, HR.out]; exact Nat.le_refl _)]
              rw [hT] at YR
              clear hT
              obtain ⟨A9, c9, rfl⟩ : ∃ A c, z = .slice A k c := by
                obtain ⟨A, c, e, -⟩ := YR.out.own.row
                rw [List.length_map, HR.out] at e
                exact ⟨_, _, e⟩
              have PX := Lib.hid (HP2.out _ YR.out.low)
              have PYr : Hid (PgR (fun b => b < wr.heap.size) n wr (mvP d p) (.slice A1 p.enums.length c1) (.slice A2 p.vars.length c2) (.slice A9 k c9) (.slice AM (mvB d p.main).length cM)) := Lib.hid ⟨PX.out.en.wide (fun b q => Nat.lt_of_lt_of_le q (Nat.le_trans (Nat.le_of_lt K5.out.lt) YR.out.low.size)), PX.out.va.wide (fun b q => Nat.lt_of_lt_of_le q (Nat.le_trans (Nat.le_of_lt K5.out.lt) YR.out.low.size)), (own_pr (g := pz) YR.out.own (by rw [List.length_map, HR.out]; exact HLim3.out) YR.out.pH).wide (fun b q => q.1), YR.out.mn.wide (fun b q => Nat.lt_of_lt_of_le q.2.1 YR.out.hs)⟩
              have PXr : Hid (PgR (fun b => b < wr.heap.size) n wr p (.slice A1 p.enums.length c1) (.slice A2 p.vars.length c2) (.slice A3 k c3) (.slice A4 p.main.length c4)) := Lib.hid (PX.out.wide (fun b q => Nat.lt_of_lt_of_le q (Nat.le_trans (Nat.le_of_lt K5.out.lt) YR.out.low.size)))
              have HSX : Hid (∀ w', Below wr.heap.size wr w' → (w'.cell? ⟨w1.heap.size, 0, none⟩ = some (.slice A1 p.enums.length c1) ∧ w'.cell? ⟨w1.heap.size, 1, none⟩ = some (.slice A2 p.vars.length c2) ∧ w'.cell? ⟨w1.heap.size, 2, none⟩ = some (.slice A3 k c3) ∧ w'.cell? ⟨w1.heap.size, 3, none⟩ = some (.slice A4 p.main.length c4)) ∧ w'.cell? ⟨pz, 0, none⟩ = some (.slice A1 p.enums.length c1) ∧ w'.cell? ⟨pz, 1, none⟩ = some (.slice A2 p.vars.length c2) ∧ w'.cell? ⟨pz, 2, none⟩ = some (.slice A9 k c9) ∧ w'.cell? ⟨pz, 3, none⟩ = some (.slice AM (mvB d p.main).length cM)) := Lib.hid fun w' hb => ⟨(HS5.out _ (thru YR.out.low hb)), (YR.out.box.below hb YR.out.box.lt).cell 0, (YR.out.box.below hb YR.out.box.lt).cell 1, (YR.out.box.below hb YR.out.box.lt).cell 2, (YR.out.box.below hb YR.out.box.lt).cell 3⟩
              obtain ⟨TX, hTX⟩ : ∃ T : ByteArray, T = ⟨(printF Lib.itoa p).toArray⟩ := ⟨_, rfl⟩
              have BW : Hid (∀ w', Below wr.heap.size wr w' → Below W0.heap.size W0 w') := Lib.hid fun w' hb => thru (thru C1.out (thru E2.out YR.out.low)) hb
              have HA2 : Hid (∀ w', Below wr.heap.size wr w' → Calls Tryd.prog 7 #[] w' (fun e w2 => e = .returned (.bool true) ∧ Below w'.heap.size w' w2)) := Lib.hid fun w' hb => HA.out _ (BW.out _ hb)
              have HXY : Hid (∀ w', Below wr.heap.size wr w' → Calls Tryd.prog 16 #[pgV (.slice A1 p.enums.length c1) (.slice A2 p.vars.length c2) (.slice A3 k c3) (.slice A4 p.main.length c4), pgV (.slice A1 p.enums.length c1) (.slice A2 p.vars.length c2) (.slice A9 k c9) (.slice AM (mvB d p.main).length cM)] w' (fun e w2 => e = .returned (.bool true) ∧ Below w'.heap.size w' w2)) := Lib.hid fun w' hb => by
                have := same_any n p (mvP d p) _ _ _ _ _ _ _ _ _ w' (PXr.out.below hb (fun b h => h)) (PYr.out.below hb (fun b h => h)) (lo_up (fun b h => h) hb.size)
                rw [samePg_mv] at this
                exact this
              have HXX : Hid (∀ w', Below wr.heap.size wr w' → Calls Tryd.prog 16 #[pgV (.slice A1 p.enums.length c1) (.slice A2 p.vars.length c2) (.slice A3 k c3) (.slice A4 p.main.length c4), pgV (.slice A1 p.enums.length c1) (.slice A2 p.vars.length c2) (.slice A3 k c3) (.slice A4 p.main.length c4)] w' (fun e w2 => e = .returned (.bool true) ∧ Below w'.heap.size w' w2)) := Lib.hid fun w' hb => by
                have := same_any n p p _ _ _ _ _ _ _ _ _ w' (PXr.out.below hb (fun b h => h)) (PXr.out.below hb (fun b h => h)) (lo_up (fun b h => h) hb.size)
                rw [samePg_refl] at this
                exact this
              have HPX : Hid (∀ w', Below wr.heap.size wr w' → Calls Tryd.prog 13 #[pgV (.slice A1 p.enums.length c1) (.slice A2 p.vars.length c2) (.slice A3 k c3) (.slice A4 p.main.length c4)] w' (fun e w2 => e = .returned (.string TX) ∧ Below w'.heap.size w' w2)) := Lib.hid fun w' hb => by
                rw [hTX]
                exact print_any n p _ _ _ _ _ w' (PXr.out.below hb (fun b h => h)) (lo_up (fun b h => h) hb.size) (HT.out.stays (thru B0.out (BW.out _ hb))) HDeep.out HLen.out
              have HPY : Hid (∀ w', Below wr.heap.size wr w' → Calls Tryd.prog 13 #[pgV (.slice A1 p.enums.length c1) (.slice A2 p.vars.length c2) (.slice A9 k c9) (.slice AM (mvB d p.main).length cM)] w' (fun e w2 => e = .returned (.string TX) ∧ Below w'.heap.size w' w2)) := Lib.hid fun w' hb => by
                have := print_any n (mvP d p) _ _ _ _ _ w' (PYr.out.below hb (fun b h => h)) (lo_up (fun b h => h) hb.size) (HT.out.stays (thru B0.out (BW.out _ hb))) (deep_mv d HDeep.out) (by rw [print_mv]; exact HLen.out)
                rw [print_mv, ← hTX] at this
                exact this
              have CD : Hid (Below wr.heap.size wr wr.drew) := Lib.hid (Below.refl _ _).drew
              have S0 := Lib.hid (HSX.out _ CD.out)
              clear hTX
              go_wp2_with fail
              go_region_held3 (fun w' => (w'.cell? ⟨w1.heap.size, 0, none⟩ = some (.slice A1 p.enums.length c1) ∧ w'.cell? ⟨w1.heap.size, 1, none⟩ = some (.slice A2 p.vars.length c2) ∧ w'.cell? ⟨w1.heap.size, 2, none⟩ = some (.slice A3 k c3) ∧ w'.cell? ⟨w1.heap.size, 3, none⟩ = some (.slice A4 p.main.length c4)) ∧ w'.cell? ⟨pz, 0, none⟩ = some (.slice A1 p.enums.length c1) ∧ w'.cell? ⟨pz, 1, none⟩ = some (.slice A2 p.vars.length c2) ∧ w'.cell? ⟨pz, 2, none⟩ = some (.slice A9 k c9) ∧ w'.cell? ⟨pz, 3, none⟩ = some (.slice AM (mvB d p.main).length cM))
                (first | (with_reducible exact S0.out) | (with_reducible exact S1.out) | (with_reducible exact S2.out) | (with_reducible exact S3.out) | (with_reducible exact S4.out) | (with_reducible exact S5.out))
                (first
                | (go_at_call 7; have HX := HA2.out _ CD.out; (with_reducible refine HX.mono ?_); clear HX; rintro e u1 ⟨rfl, hb⟩; have F1 := Lib.hid (thru CD.out hb); have S1 := Lib.hid (HSX.out _ F1.out); clear hb)
                | (go_at_call 16; have HX := HXY.out _ F1.out; (with_reducible refine HX.mono ?_); clear HX; rintro e u2 ⟨rfl, hb⟩; have F2 := Lib.hid (thru F1.out hb); have S2 := Lib.hid (HSX.out _ F2.out); clear hb)
                | (go_at_call 16; have HX := HXX.out _ F2.out; (with_reducible refine HX.mono ?_); clear HX; rintro e u3 ⟨rfl, hb⟩; have F3 := Lib.hid (thru F2.out hb); have S3 := Lib.hid (HSX.out _ F3.out); clear hb)
                | (go_at_call 13; have HX := HPX.out _ F3.out; (with_reducible refine HX.mono ?_); clear HX; rintro e u4 ⟨rfl, hb⟩; have F4 := Lib.hid (thru F3.out hb); have S4 := Lib.hid (HSX.out _ F4.out); clear hb)
                | (go_at_call 13; have HX := HPY.out _ F4.out; (with_reducible refine HX.mono ?_); clear HX; rintro e u5 ⟨rfl, hb⟩; have F5 := Lib.hid (thru F4.out hb); have S5 := Lib.hid (HSX.out _ F5.out); clear hb))
              all_goals go_wp2_with fail
              all_goals go_ret
              all_goals exact ⟨by simp, thru B0.out (BW.out _ F5.out)⟩
end Go.Proofs.YtklfcjimgnnlfaaDoor
