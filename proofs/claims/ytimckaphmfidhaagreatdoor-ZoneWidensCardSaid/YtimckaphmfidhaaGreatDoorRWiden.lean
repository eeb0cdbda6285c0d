/- ZoneWidens: the contract of the document's Widen, of two right zones with points, the second not within the first. -/
import Derived.Test.YtimckaphmfidhaaGreatDoorRWidenS
import Derived.Test.YtimckaphmfidhaaGreatDoorRTop
import Derived.Test.YtimckaphmfidhaaGreatDoorRJoin
import Derived.Test.YtimckaphmfidhaaGreatDoorRSpan
import Derived.Test.YtimckaphmfidhaaGreatDoorSpRefWiden
import Derived.BigRegion
import Derived.Deep.RegionHeld3
import Derived.Deep.LoopGhost
namespace Go.Proofs.YtimckaphmfidhaaGreatDoor
open Go.RowKit
theorem neqr (a b c d : Int) (w : World) : (binOp .neq 78 (.agg #[.int .i64 a, .int .i64 b]) (.agg #[.int .i64 c, .int .i64 d])).run Tryz.prog w = .ok (.bool (!sameB a b c d)) w := by
  rw [run_neq_struct, same23]; rfl
attribute [local go_sem ↓] Go.wp_at_zero Go.wp_at_succ neqr eqg23

/-- A zone told, its slice's length named. -/
def RetLn (w : World) (m : Nat) (R : Option Mat) (L : Nat) (e : Ending) (w' : World) : Prop := ∃ A cap, e = .returned (zoneV ((m : Int) - 1) A L cap) ∧ ZRes w' w.heap.size m R (zoneV ((m : Int) - 1) A L cap) ∧ Below w.heap.size w w'
section
variable {f : Nat → Int} {n v : Nat} {C B E : Mat} {T too : Nat → Bool} {i j k : Nat}
theorem tstep_yes (h : (!farB f n C B (i + 1) && (!farB f n C B (j + 1) && decide (C (i + 1) (j + 1) < B (i + 1) (j + 1)))) = true) : (if k = j + 1 then true else if k = i + 1 then true else tRow f n C B T i j k) = tRow f n C B T i (j + 1) k := by
  show _ = if _ then true else tRow f n C B T i j k
  by_cases e : k = j + 1
  · rw [if_pos e, if_pos ⟨h, .inr e⟩]
  · by_cases e2 : k = i + 1
    · rw [if_neg e, if_pos e2, if_pos ⟨h, .inl e2⟩]
    · rw [if_neg e, if_neg e2, if_neg (fun q => q.2.elim e2 e)]
theorem tstep_no (h : (!farB f n C B (i + 1) && (!farB f n C B (j + 1) && decide (C (i + 1) (j + 1) < B (i + 1) (j + 1)))) = false) : tRow f n C B T i j k = tRow f n C B T i (j + 1) k := by
  show _ = if _ then true else tRow f n C B T i j k
  rw [if_neg (fun q => by rw [h] at q; cases q.1)]
end
section
variable {w : World} {m n cap : Nat} {A Bz S : Option Addr} {ba bb ca cb : Nat} {f : Nat → Int}
set_option maxRecDepth 100000 in
set_option maxHeartbeats 64000000 in
theorem rwiden_pts {C B : Mat} {u : Nat} (hu : m = u + 1) (h7 : m ≤ 7) (hn : n ≤ 50) (hS : Sp.Ints w S n f) (ha : ZRes w ba m (some C) (zoneV ((m : Int) - 1) A (rlen m (some C)) ca)) (hb : ZRes w bb m (some B) (zoneV ((m : Int) - 1) Bz (rlen m (some B)) cb)) (hle : leqO m m (some B) (some C) = false) :
    Calls Tryz.prog 13 #[zoneV ((m : Int) - 1) A (rlen m (some C)) ca, zoneV ((m : Int) - 1) Bz (rlen m (some B)) cb, .slice S n cap] w (RetC w m (setR m (dAll (tAll f n C B u u) C (dSp f n C B u) u u))) := by
  obtain ⟨i0, hi0, hz0, hz1, hz2⟩ := info_parts binfo
  have h0 : 0 < m := by omega
  have hLq : ∀ W, Below w.heap.size w W → Calls Tryz.prog 45 #[zoneV ((m : Int) - 1) Bz (rlen m (some B)) cb, zoneV ((m : Int) - 1) A (rlen m (some C)) ca] W (ZRetBool false W) := fun W hb1 => by
    have q := rleq_any h0 h7 (hb.below hb1) (ha.below hb1)
    rw [hle] at q
    exact q
  obtain ⟨ga, rfl, pa, hC⟩ := rp_of ha
  obtain ⟨gb, rfl, pb, hB⟩ := rp_of hb
  have e0 : rlen m (some C) = m * m := rfl
  have e1 : rlen m (some B) = m * m := rfl
  rw [e0, e1] at hLq ⊢
  have hSp : ∀ (D : Mat) (g c k : Nat), Closed m D → RP m g c D w → 1 ≤ k → k < m → ∀ W, Below w.heap.size w W → Calls Tryz.prog 48 #[zoneV ((m : Int) - 1) (some ⟨g, 0, none⟩) (m * m) c, .int .i64 (k : Int)] W (RetSpan (-D 0 k) (D k 0) W) := fun D g c k hD pd h1 hk W hb1 => by
    have q := rspan_in h0 h7 h1 hk hD W (pd.below hb1)
    have c := closed_span hD h0 hk
    rcases of_cases (-D 0 k) (D k 0) with ⟨_, e1, e2⟩ | ⟨e, _, _⟩
    · rw [e1, e2, show max (-D 0 k) (-1152921504606846976) = -D 0 k by omega, show min (D k 0) 1152921504606846976 = D k 0 by omega] at q
      exact q
    · omega
  have HA := Lib.hid fun k => hSp C ga ca k hC pa
  have HB := Lib.hid fun k => hSp B gb cb k hB pb
  have HWd : Hid (∀ k W, Below w.heap.size w W → Calls Tryz.prog 47 #[.agg #[.int .i64 (-C 0 k), .int .i64 (C k 0)], .agg #[.int .i64 (-B 0 k), .int .i64 (B k 0)], .slice S n cap] W (Sp.RetSpan (wL f n C B k) (wH f n C B k) W)) := Lib.hid fun k W hb1 => Sp.rwiden_any f _ _ _ _ S n cap W hn (hS.below hb1)
  have HLq := Lib.hid hLq
  have HTop : Hid (∀ W, Calls Tryz.prog 46 #[.int .i64 ((m : Int) - 1)] W (RetLn W m (some far) (m * m))) := Lib.hid fun W => rztop_in h0 h7
  have HGa : Hid (∀ i j, i < m → j < m → ∀ W, Below w.heap.size w W → Calls Tryz.prog 50 #[zoneV ((m : Int) - 1) (some ⟨ga, 0, none⟩) (m * m) ca, .int .i64 (i : Int), .int .i64 (j : Int)] W (RetI W (C i j))) := Lib.hid fun i j hi hj W hb1 => rget_in h7 (pa.below hb1) hi hj
  have HGb : Hid (∀ i j, i < m → j < m → ∀ W, Below w.heap.size w W → Calls Tryz.prog 50 #[zoneV ((m : Int) - 1) (some ⟨gb, 0, none⟩) (m * m) cb, .int .i64 (i : Int), .int .i64 (j : Int)] W (RetI W (B i j))) := Lib.hid fun i j hi hj W hb1 => rget_in h7 (pb.below hb1) hi hj
  have HWf : Hid (∀ k, k < m → -1152921504606846976 ≤ wL f n C B k ∧ wL f n C B k ≤ 1152921504606846976) := Lib.hid fun k hk => by
    have q := w_facts (f := f) (n := n) hC hB h0 hk
    have c := closed_span hC h0 hk
    omega
  have HF0 := Lib.hid (farB_zero (f := f) (n := n) hC hB h0)
  have HBd : Hid (Bd m (dAll (tAll f n C B u u) C (dSp f n C B u) u u)) := Lib.hid (by subst hu; exact d_bd hC hB)
  have HU := Lib.hid hu
  have H0 := Lib.hid h0
  have H7 := Lib.hid h7
  obtain ⟨W3, hW3, k0, k1, k2, hb3, hs3⟩ := three_boxes_r w (.int .i64 ((m : Int) - 1)) (.slice (some ⟨ga, 0, none⟩) (m * m) ca) (.int .i64 ((m : Int) - 1)) (.slice (some ⟨gb, 0, none⟩) (m * m) cb) (.int .i64 0) (.slice none 0 0)
  have K3 := Lib.hid (And.intro hb3 (And.intro k0 (And.intro k1 k2)))
  have x0 := k0.cell0
  have x1 := k0.cell1
  have x3 := k1.cell0
  have x4 := k1.cell1
  have q0 : (((m * m : Nat) : Int) == 0) = false := by have := Nat.mul_pos h0 h0; simp; omega
  have q1 : decide (m * m = 0) = false := decide_eq_false (by have := Nat.mul_pos h0 h0; omega)
  have q3 : ((m : Int) * (m : Int) == 0) = false := by rw [← Int.natCast_mul]; exact q0
  have q4 : decide ((m : Int) * (m : Int) = 0) = false := by rw [← Int.natCast_mul]; exact decide_eq_false (by have := Nat.mul_pos h0 h0; omega)
  clear ha hb pa pb hC hB k0 k1 k2 hb3 hLq hSp hS hn hle h0 e0 e1 hu
  go_enter Tryz.func13, Tryz.ntmps13
  go_wp2_with (first
    | (go_at_call 45; ((with_reducible refine (HLq.out _ K3.out.1).mono ?_); rintro e w4 ⟨rfl, hb4⟩); have K4 := Lib.hid (And.intro (K3.out.1.trans (hb4.mono K3.out.1.size)) (And.intro (K3.out.2.1.below hb4) (And.intro (K3.out.2.2.1.below hb4) (K3.out.2.2.2.below hb4)))); have x0 := K4.out.2.1.cell0; have x1 := K4.out.2.1.cell1; clear hb4)
    | (go_at_call 46; ((with_reducible refine (HTop.out _).mono ?_); rintro e w5 ⟨A5, c5, rfl, hz5, hb5⟩); obtain ⟨g5, h5, p5, -⟩ := rp_of (show ZRes w5 _ m (some far) (zoneV ((m : Int) - 1) A5 (rlen m (some far)) c5) from hz5); subst h5; have P5 := Lib.hid p5; have K5 := Lib.hid (And.intro (K4.out.1.trans (hb5.mono K4.out.1.size)) (And.intro (K4.out.2.1.below hb5) (And.intro (K4.out.2.2.1.below hb5) (K4.out.2.2.2.below hb5)))); have HS5 := Lib.hid (And.intro K4.out.2.2.2.lt hb5.size); clear hb5 hz5 p5))
  have hT : DW w m ga ca gb cb w5.heap.size g5 c5 (dSp f n C B 0) (.slice (some ⟨w5.heap.size + 1, 0, none⟩) 1 1) 1 (farB f n C B) ((w5.alloc (.cells #[.int .i64 ((m : Int) - 1), .slice (some ⟨g5, 0, none⟩) (m * m) c5] 24)).alloc (.cells #[.bool false] 4)) := by
    have b6 := zboxed w5 (.cells #[.int .i64 ((m : Int) - 1), .slice (some ⟨g5, 0, none⟩) (m * m) c5] 24)
    have b7 := zboxed (w5.alloc (.cells #[.int .i64 ((m : Int) - 1), .slice (some ⟨g5, 0, none⟩) (m * m) c5] 24)) (.cells #[.bool false] 4)
    have hd := Duo.new w5 24 (.int .i64 ((m : Int) - 1)) (.slice (some ⟨g5, 0, none⟩) (m * m) c5)
    have lit := World.ownsRow_lit (base := w5.heap.size + 1) (e := 4) (size := 1) (w5.alloc (.cells #[.int .i64 ((m : Int) - 1), .slice (some ⟨g5, 0, none⟩) (m * m) c5] 24)) #[.bool false] 1 (by simp) (by unfold maxLen; omega) rfl
    have hg := (P5.out.row.lt g5 rfl).2
    have h5 := HS5.out
    rw [World.size_alloc] at lit
    refine ⟨K5.out.1.trans ((b6.trans (b7.mono b6.size)).mono K5.out.1.size), (K5.out.2.1.below b6).below b7, (K5.out.2.2.1.below b6).below b7, (K5.out.2.2.2.below b6).below b7, hd.below b7, by omega, ⟨own_kept_below (own_kept_below P5.out.row b6) b7⟩, ?_, by simp [Value.ownBlock]; omega⟩
    show World.ownsRow _ _ _ _ _ _ [.bool (farB f n C B 0)]
    rw [HF0.out]
    exact lit
  have HT := Lib.hid hT
  obtain ⟨bd, hbd⟩ : ∃ x, w5.heap.size = x := ⟨_, rfl⟩
  rw [hbd] at HT ⊢
  clear hT hbd K3 K4 K5 x0 x1 x3 x4 HS5 P5
  go_loopg [8, 9] m (fun gk s t wr => ∃ (j k : Nat) (v : Value) (gd cd : Nat), k = j + 1 ∧ k ≤ m ∧ j + gk = m ∧ t = .int .i64 (k : Int) ∧ v = s ∧ DW w m ga ca gb cb bd gd cd (dSp f n C B j) v k (farB f n C B) wr)
  case atStart => exact ⟨0, 1, _, g5, c5, rfl, H0.out, by omega, rfl, rfl, HT.out⟩
  case round =>
    rename Nat => gr
    obtain ⟨j, k, v, gd, cd, hk', hk2, hj', rfl, rfl, hD⟩ := hrel
    have HK := Lib.hid (And.intro hk' (And.intro hk2 hj'))
    have X := Lib.hid hD
    clear hk' hk2 hj' hD HT
    have a0 := X.out.za.cell0
    have a1 := X.out.za.lt
    by_cases hkm : k < m
    · have d4 : decide ((k : Int) ≤ (m : Int) - 1) = true := decide_eq_true (by omega)
      have hk1 : 1 ≤ k := by have := HK.out; omega
      have HAk := Lib.hid (HA.out k hk1 hkm)
      have HBk := Lib.hid (HB.out k hk1 hkm)
      have HWk := Lib.hid (HWd.out k)
      have HE : Hid (grd (grd (dSp f n C B j) k 0 (wH f n C B k)) 0 k (-wL f n C B k) = dSp f n C B k) := Lib.hid (by rw [HK.out.1]; rfl)
      have HFk : Hid (farB f n C B k = !sameB (wL f n C B k) (wH f n C B k) (-C 0 k) (C k 0)) := Lib.hid rfl
      have hlw := HWf.out k hkm
      have wk : IntKind.i64.wrap ((k : Int) + 1) = (k : Int) + 1 := IntWalk.i64_in _ (by have := H7.out; omega)
      have HM : Hid (k + 1 ≤ maxLen ∧ (k + 1) * 1 ≤ 140737488355328) := Lib.hid (by have := H7.out; unfold maxLen; omega)
      obtain ⟨l, hl⟩ : ∃ x, wL f n C B k = x := ⟨_, rfl⟩
      obtain ⟨h, hh⟩ : ∃ x, wH f n C B k = x := ⟨_, rfl⟩
      obtain ⟨p, hp⟩ : ∃ x, -C 0 k = x := ⟨_, rfl⟩
      obtain ⟨q, hq⟩ : ∃ x, C k 0 = x := ⟨_, rfl⟩
      obtain ⟨p', hp'⟩ : ∃ x, -B 0 k = x := ⟨_, rfl⟩
      obtain ⟨q', hq'⟩ : ∃ x, B k 0 = x := ⟨_, rfl⟩
      rw [hl, hh, hp, hq] at HFk
      rw [hl, hh] at HE
      rw [hl] at hlw
      rw [hp, hq] at HAk
      rw [hp', hq'] at HBk
      rw [hl, hh, hp, hq, hp', hq'] at HWk
      have wl0 : IntKind.i64.wrap (0 - l) = -l := by rw [IntWalk.i64_in _ (by omega)]; omega
      have wl1 : IntKind.i64.wrap (-l) = -l := IntWalk.i64_in _ (by omega)
      have HW1 : Hid (∀ W gd cd v k', DW w m ga ca gb cb bd gd cd (dSp f n C B j) v k' (farB f n C B) W → Calls Tryz.prog 49 #[zoneV ((m : Int) - 1) (some ⟨gd, 0, none⟩) (m * m) cd, .int .i64 (k : Int), .int .i64 0, .int .i64 h] W (RetRZ W m (grd (dSp f n C B j) k 0 h))) := Lib.hid fun W gd cd v k' x => rwith_any H0.out H7.out hkm H0.out x.rowE
      have HW2 : Hid (∀ W g c base, RZ m g c (grd (dSp f n C B j) k 0 h) base W → Calls Tryz.prog 49 #[zoneV ((m : Int) - 1) (some ⟨g, 0, none⟩) (m * m) c, .int .i64 0, .int .i64 (k : Int), .int .i64 (-l)] W (RetRZ W m (dSp f n C B k))) := Lib.hid fun W g c base r => by
        rw [← HE.out]
        exact rwith_any H0.out H7.out H0.out hkm r
      have HAdd : Hid (∀ W W1 v1 gd cd bs o, DS w m ga ca gb cb bd gd cd (dSp f n C B j) v k (farB f n C B) bs l h W → W1.ownsRow (bd + 1) 4 1 v1 (k + 1) (boolsL k (farB f n C B) ++ [.bool (!sameB l h p q)]) → (W.alloc o).grownBy W1 v.ownBlock → (v1.ownBlock = v.ownBlock ∨ v1.ownBlock = some (W.alloc o).heap.size) → DS w m ga ca gb cb bd gd cd (dSp f n C B j) v1 (k + 1) (farB f n C B) bs l h W1) := Lib.hid (by
        rw [← HFk.out]
        exact fun W W1 v1 gd cd bs o a b c d => a.add b c d)
      clear hl hh hp hq hp' hq' HFk HE hlw
      go_wp2_with fail
      clear a0 a1
      have M0 := Lib.hid (X.out.below (Below.refl _ _).drew)
      refine wp_region_held_drew (S := fun w' => (w'.cell? ⟨w.heap.size, 0, none⟩ = some (.int .i64 ((m : Int) - 1)) ∧ w'.cell? ⟨w.heap.size, 1, none⟩ = some (.slice (some ⟨ga, 0, none⟩) (m * m) ca)) ∧ w'.cell? ⟨w.heap.size + 1, 0, none⟩ = some (.int .i64 ((m : Int) - 1)) ∧ w'.cell? ⟨w.heap.size + 1, 1, none⟩ = some (.slice (some ⟨gb, 0, none⟩) (m * m) cb)) (by kernel_rfl) M0.out.zs (fun hH0 => ?_)
      refine wpAnyH_take (i := 0) (oi := ⟨some 35, _, _, _, _, _⟩) (v := ?_) rfl (by kernel_rfl) (by kernel_rfl) (by kernel_rfl) (fun _ _ _ h => h) (Or.inl ⟨by rfl, ?_⟩) hH0 ?_
      rotate_left
      · intro w hSw
        try dsimp only at hSw
        go_simp
        try with_reducible rfl
      try simp only [Act.put, List.setIfInBounds_toArray, List.set_cons_zero, List.set_cons_succ]
      refine wpAnyH_take (i := 1) (oi := ⟨some 36, _, _, _, _, _⟩) (v := ?_) rfl (by kernel_rfl) (by kernel_rfl) (by kernel_rfl) (fun _ _ _ h => h) (Or.inl ⟨by rfl, ?_⟩) hH0 ?_
      rotate_left
      · intro w hSw
        try dsimp only at hSw
        go_simp
        try with_reducible rfl
      try simp only [Act.put, List.setIfInBounds_toArray, List.set_cons_zero, List.set_cons_succ]
      refine wpAnyH_take (i := 3) (oi := ⟨some 38, _, _, _, _, _⟩) (v := ?_) rfl (by kernel_rfl) (by kernel_rfl) (by kernel_rfl) (fun _ _ _ h => h) (Or.inl ⟨by rfl, ?_⟩) hH0 ?_
      rotate_left
      · intro w hSw
        try dsimp only at hSw
        go_simp
        try with_reducible rfl
      try simp only [Act.put, List.setIfInBounds_toArray, List.set_cons_zero, List.set_cons_succ]
      refine wpAnyH_take (i := 4) (oi := ⟨some 39, _, _, _, _, _⟩) (v := ?_) rfl (by kernel_rfl) (by kernel_rfl) (by kernel_rfl) (fun _ _ _ h => h) (Or.inl ⟨by rfl, ?_⟩) hH0 ?_
      rotate_left
      · intro w hSw
        try dsimp only at hSw
        go_simp
        try with_reducible rfl
      try simp only [Act.put, List.setIfInBounds_toArray, List.set_cons_zero, List.set_cons_succ]
      refine wpAnyH_take (i := 6) (oi := ⟨some 41, _, _, _, _, _⟩) (v := ?_) rfl (by kernel_rfl) (by kernel_rfl) (by kernel_rfl) (fun _ _ _ h => h) (Or.inl ⟨by rfl, ?_⟩) hH0 ?_
      rotate_left
      · intro w hSw
        try dsimp only at hSw
        go_simp
        try with_reducible rfl
      try simp only [Act.put, List.setIfInBounds_toArray, List.set_cons_zero, List.set_cons_succ]
      refine wpAnyH_ready (rs := [2, 8]) (by kernel_rfl) (by simp) ?_
      refine (AllReadyH.cons (o := ⟨some 37, _, _, _, _, _⟩) rfl (fun K hK => ?_) (AllReadyH.cons (o := ⟨some 10, _, _, _, _, _⟩) rfl (fun K hK => ?_) AllReadyH.nil))
      · go_simp
        refine (HAk.out _ M0.out.low).mono ?_
        rintro e w6 ⟨rfl, hb1⟩
        have M1 := Lib.hid (M0.out.below hb1)
        clear hb1
        go_wp2_with fail
        refine hK.out _ _ (M1.out.zs) (fun h1 => ?_)
        clear hK K
        try simp only [Act.put, List.setIfInBounds_toArray, List.set_cons_zero, List.set_cons_succ]
        refine wpAnyH_ready (rs := [5, 8]) (by kernel_rfl) (by simp) ?_
        refine (AllReadyH.cons (o := ⟨some 40, _, _, _, _, _⟩) rfl (fun K hK => ?_) (AllReadyH.cons (o := ⟨some 10, _, _, _, _, _⟩) rfl (fun K hK => ?_) AllReadyH.nil))
        · go_simp
          refine (HBk.out _ M1.out.low).mono ?_
          rintro e w7 ⟨rfl, hb2⟩
          have M2 := Lib.hid (M1.out.below hb2)
          clear hb2
          go_wp2_with fail
          refine hK.out _ _ (M2.out.zs) (fun h2 => ?_)
          clear hK K
          try simp only [Act.put, List.setIfInBounds_toArray, List.set_cons_zero, List.set_cons_succ]
          refine wpAnyH_ready (rs := [7, 8]) (by kernel_rfl) (by simp) ?_
          refine (AllReadyH.cons (o := ⟨some 42, _, _, _, _, _⟩) rfl (fun K hK => ?_) (AllReadyH.cons (o := ⟨some 10, _, _, _, _, _⟩) rfl (fun K hK => ?_) AllReadyH.nil))
          · go_simp
            refine (HWk.out _ M2.out.low).mono ?_
            rintro e w8 ⟨rfl, hb3⟩
            have M3 := Lib.hid (M2.out.below hb3)
            clear hb3
            go_wp2_with fail
            refine hK.out _ _ (M3.out.zs) (fun h3 => ?_)
            clear hK K
            try simp only [Act.put, List.setIfInBounds_toArray, List.set_cons_zero, List.set_cons_succ]
            refine wpAnyH_ready (rs := [8]) (by kernel_rfl) (by simp) ?_
            refine (AllReadyH.cons (o := ⟨some 10, _, _, _, _, _⟩) rfl (fun K hK => ?_) AllReadyH.nil)
            have M5 := Lib.hid (M3.out.below (zboxed _ (.cells #[.int .i64 0, .int .i64 0] 78)))
            have D5 := Lib.hid (Duo.new w8 78 (.int .i64 0) (.int .i64 0))
            have F5 : Hid (bd + 1 ≤ w8.heap.size) := Lib.hid (by have := M3.out.zo.lt; omega)
            go_simp
            refine hK.out _ _ (M5.out.zs) (fun h5 => ?_)
            clear hK K
            try simp only [Act.put, List.setIfInBounds_toArray, List.set_cons_zero, List.set_cons_succ]
            obtain ⟨bs, hbs⟩ : ∃ x, w8.heap.size = x := ⟨_, rfl⟩
            have F5 : Hid (bd + 1 ≤ bs) := Lib.hid (by rw [← hbs]; exact F5.out)
            have D5 : Hid (Duo _ bs _ _ _) := Lib.hid (by rw [← hbs]; exact D5.out)
            rw [hbs]
            clear hbs
            refine wpAnyH_ready (rs := [9]) (by kernel_rfl) (by simp) ?_
            refine (AllReadyH.cons (o := ⟨none, _, _, _, _, _⟩) rfl (fun K hK => ?_) AllReadyH.nil)
            have y0 := D5.out.cell0
            have y1 := D5.out.cell1
            have y2 := D5.out.frozen0
            have y3 := D5.out.frozen1
            have y4 := D5.out.lt
            go_simp
            have MF := Lib.hid (M5.out.sput (l := l) (h := h) D5.out F5.out)
            refine hK.out _ _ (MF.out.dw.zs) (fun hF => ?_)
            clear hK K
            try simp only [Act.put, List.setIfInBounds_toArray, List.set_cons_zero, List.set_cons_succ]
            clear y0 y1 y2 y3 y4
            refine wpAnyH_done (by kernel_rfl) ?_ _
            have N0 := Lib.hid (MF.out.below (Below.refl _ _).drew)
            go_wp2_with fail
            refine wp_region_held_drew (S := fun w' => (w'.cell? ⟨bs, 0, none⟩ = some (.int .i64 l) ∧ w'.cell? ⟨bs, 1, none⟩ = some (.int .i64 h)) ∧ w'.cell? ⟨w.heap.size, 0, none⟩ = some (.int .i64 ((m : Int) - 1)) ∧ w'.cell? ⟨w.heap.size, 1, none⟩ = some (.slice (some ⟨ga, 0, none⟩) (m * m) ca)) (by kernel_rfl) N0.out.s (fun g0 => ?_)
            refine wpAnyH_take (i := 0) (oi := ⟨some 43, _, _, _, _, _⟩) (v := ?_) rfl (by kernel_rfl) (by kernel_rfl) (by kernel_rfl) (fun _ _ _ h => h) (Or.inl ⟨by rfl, ?_⟩) g0 ?_
            rotate_left
            · intro w hSw
              try dsimp only at hSw
              go_simp
              try with_reducible rfl
            try simp only [Act.put, List.setIfInBounds_toArray, List.set_cons_zero, List.set_cons_succ]
            refine wpAnyH_take (i := 1) (oi := ⟨some 44, _, _, _, _, _⟩) (v := ?_) rfl (by kernel_rfl) (by kernel_rfl) (by kernel_rfl) (fun _ _ _ h => h) (Or.inl ⟨by rfl, ?_⟩) g0 ?_
            rotate_left
            · intro w hSw
              try dsimp only at hSw
              go_simp
              try with_reducible rfl
            try simp only [Act.put, List.setIfInBounds_toArray, List.set_cons_zero, List.set_cons_succ]
            refine wpAnyH_take (i := 2) (oi := ⟨some 45, _, _, _, _, _⟩) (v := ?_) rfl (by kernel_rfl) (by kernel_rfl) (by kernel_rfl) (fun _ _ _ h => h) (Or.inl ⟨by rfl, ?_⟩) g0 ?_
            rotate_left
            · intro w hSw
              try dsimp only at hSw
              go_simp
              try with_reducible rfl
            try simp only [Act.put, List.setIfInBounds_toArray, List.set_cons_zero, List.set_cons_succ]
            refine wpAnyH_take (i := 3) (oi := ⟨some 46, _, _, _, _, _⟩) (v := ?_) rfl (by kernel_rfl) (by kernel_rfl) (by kernel_rfl) (fun _ _ _ h => h) (Or.inl ⟨by rfl, ?_⟩) g0 ?_
            rotate_left
            · intro w hSw
              try dsimp only at hSw
              go_simp
              try with_reducible rfl
            try simp only [Act.put, List.setIfInBounds_toArray, List.set_cons_zero, List.set_cons_succ]
            refine wpAnyH_ready (rs := [4]) (by kernel_rfl) (by simp) ?_
            refine (AllReadyH.cons (o := ⟨some 47, _, _, _, _, _⟩) rfl (fun K hK => ?_) AllReadyH.nil)
            go_simp
            refine (HAk.out _ N0.out.dw.low).mono ?_
            rintro e wa ⟨rfl, hba⟩
            have N1 := Lib.hid (N0.out.below hba)
            clear hba
            go_wp2_with fail
            refine hK.out _ _ (N1.out.s) (fun g1 => ?_)
            clear hK K
            try simp only [Act.put, List.setIfInBounds_toArray, List.set_cons_zero, List.set_cons_succ]
            refine wpAnyH_take (i := 5) (oi := ⟨some 48, _, _, _, _, _⟩) (v := ?_) rfl (by kernel_rfl) (by kernel_rfl) (by kernel_rfl) (fun _ _ _ h => h) (Or.inl ⟨by rfl, ?_⟩) g1 ?_
            rotate_left
            · intro w hSw
              try dsimp only at hSw
              go_simp
              try with_reducible rfl
            try simp only [Act.put, List.setIfInBounds_toArray, List.set_cons_zero, List.set_cons_succ]
            refine wpAnyH_ready (rs := [6]) (by kernel_rfl) (by simp) ?_
            refine (AllReadyH.cons (o := ⟨some 49, _, _, _, _, _⟩) rfl (fun K hK => ?_) AllReadyH.nil)
            have N2 := Lib.hid (N1.out.below (zboxed wa (.cells #[.bool (!sameB l h p q)] 4)))
            go_simp
            refine hK.out _ _ (N2.out.s) (fun g2 => ?_)
            clear hK K
            try simp only [Act.put, List.setIfInBounds_toArray, List.set_cons_zero, List.set_cons_succ]
            refine wpAnyH_ready (rs := [7]) (by kernel_rfl) (by simp) ?_
            refine (AllReadyH.cons (o := ⟨some 50, _, _, _, _, _⟩) rfl (fun K hK => ?_) AllReadyH.nil)
            rw [if_pos (by rfl)]
            refine wp_append_at (.tmp 43) (.tmp 49) 72 rfl (bd + 1) 4 i0 (.bool false) 1 1 Tryz.underlying72 hi0 hz0 hz1 hz2 rfl (by decide) v k (boolsL k (farB f n C B)) rfl N2.out.dw.rowF ⟨wa.heap.size, 0, none⟩ 1 1 [.bool (!sameB l h p q)] rfl rfl (news_one wa _ _) (by simp [Value.oneCell']) HM.out.1 HM.out.2 (Nat.succ_le_of_lt N2.out.dw.zo.lt) ?_
            intro v7 wb ho7 hg7 hl7
            have N3 := Lib.hid (HAdd.out _ _ _ _ _ _ _ N1.out ho7 hg7 hl7)
            clear ho7 hg7 hl7
            refine hK.out _ _ (N3.out.s) (fun g3 => ?_)
            clear hK K
            try simp only [Act.put, List.setIfInBounds_toArray, List.set_cons_zero, List.set_cons_succ]
            refine wpAnyH_take (i := 8) (oi := ⟨some 8, _, _, _, _, _⟩) (v := ?_) rfl (by kernel_rfl) (by kernel_rfl) (by kernel_rfl) (fun _ _ _ h => h) (Or.inl ⟨by rfl, ?_⟩) g3 ?_
            rotate_left
            · intro w hSw
              try dsimp only at hSw
              go_simp
              try with_reducible rfl
            try simp only [Act.put, List.setIfInBounds_toArray, List.set_cons_zero, List.set_cons_succ]
            refine wpAnyH_done (by kernel_rfl) ?_ _
            have O0 := Lib.hid (N3.out.below (Below.refl _ _).drew)
            go_wp2_with fail
            have x0 := O0.out.dw.zo.cell0
            have x1 := O0.out.dw.zo.cell1
            have s0 := O0.out.sb.cell0
            have s1 := O0.out.sb.cell1
            go_region_with (first
              | (go_at_call 49; ((with_reducible refine (HW1.out _ _ _ _ _ O0.out.dw).mono ?_); rintro e wc ⟨gc, cc, rfl, hrc, hbc⟩); have P1 := Lib.hid (O0.out.below hbc); have R1 := Lib.hid hrc; have s0 := P1.out.sb.cell0; have s1 := P1.out.sb.cell1; clear hbc hrc)
              | (go_at_call 49; ((with_reducible refine (HW2.out _ _ _ _ R1.out).mono ?_); rintro e wd ⟨ge, ce, rfl, hrd, hbd⟩); have P2 := Lib.hid (P1.out.below hbd); have R2 := Lib.hid hrd; have b0 := P2.out.dw.zo.frozen0; have b1 := P2.out.dw.zo.frozen1; have b2 := P2.out.dw.zo.lt; have b3 := P2.out.dw.zo.cell0; have b4 := P2.out.dw.zo.cell1; clear hbd hrd))
            all_goals go_wp2_with fail
            all_goals
              have hk' := HK.out
              go_roundg (gr - 1)
              case measure => omega
              case rel => exact ⟨k, k + 1, _, ge, ce, rfl, by omega, by omega, by simp, rfl, P2.out.dw.put R2.out (P1.out.dw.later R2.out (Nat.le_refl _))⟩
          · have M8 := Lib.hid (M2.out.below (zboxed _ (.cells #[.int .i64 0, .int .i64 0] 78)))
            have D8 := Lib.hid (Duo.new w7 78 (.int .i64 0) (.int .i64 0))
            have F8 : Hid (bd + 1 ≤ w7.heap.size) := Lib.hid (by have := M2.out.zo.lt; omega)
            go_simp
            refine hK.out _ _ (M8.out.zs) (fun h8 => ?_)
            clear hK K
            try simp only [Act.put, List.setIfInBounds_toArray, List.set_cons_zero, List.set_cons_succ]
            obtain ⟨bs, hbs⟩ : ∃ x, w7.heap.size = x := ⟨_, rfl⟩
            have F8 : Hid (bd + 1 ≤ bs) := Lib.hid (by rw [← hbs]; exact F8.out)
            have D8 : Hid (Duo _ bs _ _ _) := Lib.hid (by rw [← hbs]; exact D8.out)
            rw [hbs]
            clear hbs
            refine wpAnyH_ready (rs := [7]) (by kernel_rfl) (by simp) ?_
            refine (AllReadyH.cons (o := ⟨some 42, _, _, _, _, _⟩) rfl (fun K hK => ?_) AllReadyH.nil)
            go_simp
            refine (HWk.out _ M8.out.low).mono ?_
            rintro e w8 ⟨rfl, hb9⟩
            have M9 := Lib.hid (M8.out.below hb9)
            have D9 := Lib.hid (D8.out.below hb9)
            clear hb9
            go_wp2_with fail
            refine hK.out _ _ (M9.out.zs) (fun h9 => ?_)
            clear hK K
            try simp only [Act.put, List.setIfInBounds_toArray, List.set_cons_zero, List.set_cons_succ]
            refine wpAnyH_ready (rs := [9]) (by kernel_rfl) (by simp) ?_
            refine (AllReadyH.cons (o := ⟨none, _, _, _, _, _⟩) rfl (fun K hK => ?_) AllReadyH.nil)
            have y0 := D9.out.cell0
            have y1 := D9.out.cell1
            have y2 := D9.out.frozen0
            have y3 := D9.out.frozen1
            have y4 := D9.out.lt
            go_simp
            have MF := Lib.hid (M9.out.sput (l := l) (h := h) D9.out F8.out)
            refine hK.out _ _ (MF.out.dw.zs) (fun hF => ?_)
            clear hK K
            try simp only [Act.put, List.setIfInBounds_toArray, List.set_cons_zero, List.set_cons_succ]
            clear y0 y1 y2 y3 y4
            refine wpAnyH_done (by kernel_rfl) ?_ _
            have N0 := Lib.hid (MF.out.below (Below.refl _ _).drew)
            go_wp2_with fail
            refine wp_region_held_drew (S := fun w' => (w'.cell? ⟨bs, 0, none⟩ = some (.int .i64 l) ∧ w'.cell? ⟨bs, 1, none⟩ = some (.int .i64 h)) ∧ w'.cell? ⟨w.heap.size, 0, none⟩ = some (.int .i64 ((m : Int) - 1)) ∧ w'.cell? ⟨w.heap.size, 1, none⟩ = some (.slice (some ⟨ga, 0, none⟩) (m * m) ca)) (by kernel_rfl) N0.out.s (fun g0 => ?_)
            refine wpAnyH_take (i := 0) (oi := ⟨some 43, _, _, _, _, _⟩) (v := ?_) rfl (by kernel_rfl) (by kernel_rfl) (by kernel_rfl) (fun _ _ _ h => h) (Or.inl ⟨by rfl, ?_⟩) g0 ?_
            rotate_left
            · intro w hSw
              try dsimp only at hSw
              go_simp
              try with_reducible rfl
            try simp only [Act.put, List.setIfInBounds_toArray, List.set_cons_zero, List.set_cons_succ]
            refine wpAnyH_take (i := 1) (oi := ⟨some 44, _, _, _, _, _⟩) (v := ?_) rfl (by kernel_rfl) (by kernel_rfl) (by kernel_rfl) (fun _ _ _ h => h) (Or.inl ⟨by rfl, ?_⟩) g0 ?_
            rotate_left
            · intro w hSw
              try dsimp only at hSw
              go_simp
              try with_reducible rfl
            try simp only [Act.put, List.setIfInBounds_toArray, List.set_cons_zero, List.set_cons_succ]
            refine wpAnyH_take (i := 2) (oi := ⟨some 45, _, _, _, _, _⟩) (v := ?_) rfl (by kernel_rfl) (by kernel_rfl) (by kernel_rfl) (fun _ _ _ h => h) (Or.inl ⟨by rfl, ?_⟩) g0 ?_
            rotate_left
            · intro w hSw
              try dsimp only at hSw
              go_simp
              try with_reducible rfl
            try simp only [Act.put, List.setIfInBounds_toArray, List.set_cons_zero, List.set_cons_succ]
            refine wpAnyH_take (i := 3) (oi := ⟨some 46, _, _, _, _, _⟩) (v := ?_) rfl (by kernel_rfl) (by kernel_rfl) (by kernel_rfl) (fun _ _ _ h => h) (Or.inl ⟨by rfl, ?_⟩) g0 ?_
            rotate_left
            · intro w hSw
              try dsimp only at hSw
              go_simp
              try with_reducible rfl
            try simp only [Act.put, List.setIfInBounds_toArray, List.set_cons_zero, List.set_cons_succ]
            refine wpAnyH_ready (rs := [4]) (by kernel_rfl) (by simp) ?_
            refine (AllReadyH.cons (o := ⟨some 47, _, _, _, _, _⟩) rfl (fun K hK => ?_) AllReadyH.nil)
            go_simp
            refine (HAk.out _ N0.out.dw.low).mono ?_
            rintro e wa ⟨rfl, hba⟩
            have N1 := Lib.hid (N0.out.below hba)
            clear hba
            go_wp2_with fail
            refine hK.out _ _ (N1.out.s) (fun g1 => ?_)
            clear hK K
            try simp only [Act.put, List.setIfInBounds_toArray, List.set_cons_zero, List.set_cons_succ]
            refine wpAnyH_take (i := 5) (oi := ⟨some 48, _, _, _, _, _⟩) (v := ?_) rfl (by kernel_rfl) (by kernel_rfl) (by kernel_rfl) (fun _ _ _ h => h) (Or.inl ⟨by rfl, ?_⟩) g1 ?_
            rotate_left
            · intro w hSw
              try dsimp only at hSw
              go_simp
              try with_reducible rfl
            try simp only [Act.put, List.setIfInBounds_toArray, List.set_cons_zero, List.set_cons_succ]
            refine wpAnyH_ready (rs := [6]) (by kernel_rfl) (by simp) ?_
            refine (AllReadyH.cons (o := ⟨some 49, _, _, _, _, _⟩) rfl (fun K hK => ?_) AllReadyH.nil)
            have N2 := Lib.hid (N1.out.below (zboxed wa (.cells #[.bool (!sameB l h p q)] 4)))
            go_simp
            refine hK.out _ _ (N2.out.s) (fun g2 => ?_)
            clear hK K
            try simp only [Act.put, List.setIfInBounds_toArray, List.set_cons_zero, List.set_cons_succ]
            refine wpAnyH_ready (rs := [7]) (by kernel_rfl) (by simp) ?_
            refine (AllReadyH.cons (o := ⟨some 50, _, _, _, _, _⟩) rfl (fun K hK => ?_) AllReadyH.nil)
            rw [if_pos (by rfl)]
            refine wp_append_at (.tmp 43) (.tmp 49) 72 rfl (bd + 1) 4 i0 (.bool false) 1 1 Tryz.underlying72 hi0 hz0 hz1 hz2 rfl (by decide) v k (boolsL k (farB f n C B)) rfl N2.out.dw.rowF ⟨wa.heap.size, 0, none⟩ 1 1 [.bool (!sameB l h p q)] rfl rfl (news_one wa _ _) (by simp [Value.oneCell']) HM.out.1 HM.out.2 (Nat.succ_le_of_lt N2.out.dw.zo.lt) ?_
            intro v7 wb ho7 hg7 hl7
            have N3 := Lib.hid (HAdd.out _ _ _ _ _ _ _ N1.out ho7 hg7 hl7)
            clear ho7 hg7 hl7
            refine hK.out _ _ (N3.out.s) (fun g3 => ?_)
            clear hK K
            try simp only [Act.put, List.setIfInBounds_toArray, List.set_cons_zero, List.set_cons_succ]
            refine wpAnyH_take (i := 8) (oi := ⟨some 8, _, _, _, _, _⟩) (v := ?_) rfl (by kernel_rfl) (by kernel_rfl) (by kernel_rfl) (fun _ _ _ h => h) (Or.inl ⟨by rfl, ?_⟩) g3 ?_
            rotate_left
            · intro w hSw
              try dsimp only at hSw
              go_simp
              try with_reducible rfl
            try simp only [Act.put, List.setIfInBounds_toArray, List.set_cons_zero, List.set_cons_succ]
            refine wpAnyH_done (by kernel_rfl) ?_ _
            have O0 := Lib.hid (N3.out.below (Below.refl _ _).drew)
            go_wp2_with fail
            have x0 := O0.out.dw.zo.cell0
            have x1 := O0.out.dw.zo.cell1
            have s0 := O0.out.sb.cell0
            have s1 := O0.out.sb.cell1
            go_region_with (first
              | (go_at_call 49; ((with_reducible refine (HW1.out _ _ _ _ _ O0.out.dw).mono ?_); rintro e wc ⟨gc, cc, rfl, hrc, hbc⟩); have P1 := Lib.hid (O0.out.below hbc); have R1 := Lib.hid hrc; have s0 := P1.out.sb.cell0; have s1 := P1.out.sb.cell1; clear hbc hrc)
              | (go_at_call 49; ((with_reducible refine (HW2.out _ _ _ _ R1.out).mono ?_); rintro e wd ⟨ge, ce, rfl, hrd, hbd⟩); have P2 := Lib.hid (P1.out.below hbd); have R2 := Lib.hid hrd; have b0 := P2.out.dw.zo.frozen0; have b1 := P2.out.dw.zo.frozen1; have b2 := P2.out.dw.zo.lt; have b3 := P2.out.dw.zo.cell0; have b4 := P2.out.dw.zo.cell1; clear hbd hrd))
            all_goals go_wp2_with fail
            all_goals
              have hk' := HK.out
              go_roundg (gr - 1)
              case measure => omega
              case rel => exact ⟨k, k + 1, _, ge, ce, rfl, by omega, by omega, by simp, rfl, P2.out.dw.put R2.out (P1.out.dw.later R2.out (Nat.le_refl _))⟩
        · have M12 := Lib.hid (M1.out.below (zboxed _ (.cells #[.int .i64 0, .int .i64 0] 78)))
          have D12 := Lib.hid (Duo.new w6 78 (.int .i64 0) (.int .i64 0))
          have F12 : Hid (bd + 1 ≤ w6.heap.size) := Lib.hid (by have := M1.out.zo.lt; omega)
          go_simp
          refine hK.out _ _ (M12.out.zs) (fun h12 => ?_)
          clear hK K
          try simp only [Act.put, List.setIfInBounds_toArray, List.set_cons_zero, List.set_cons_succ]
          obtain ⟨bs, hbs⟩ : ∃ x, w6.heap.size = x := ⟨_, rfl⟩
          have F12 : Hid (bd + 1 ≤ bs) := Lib.hid (by rw [← hbs]; exact F12.out)
          have D12 : Hid (Duo _ bs _ _ _) := Lib.hid (by rw [← hbs]; exact D12.out)
          rw [hbs]
          clear hbs
          refine wpAnyH_ready (rs := [5]) (by kernel_rfl) (by simp) ?_
          refine (AllReadyH.cons (o := ⟨some 40, _, _, _, _, _⟩) rfl (fun K hK => ?_) AllReadyH.nil)
          go_simp
          refine (HBk.out _ M12.out.low).mono ?_
          rintro e w7 ⟨rfl, hb13⟩
          have M13 := Lib.hid (M12.out.below hb13)
          have D13 := Lib.hid (D12.out.below hb13)
          clear hb13
          go_wp2_with fail
          refine hK.out _ _ (M13.out.zs) (fun h13 => ?_)
          clear hK K
          try simp only [Act.put, List.setIfInBounds_toArray, List.set_cons_zero, List.set_cons_succ]
          refine wpAnyH_ready (rs := [7]) (by kernel_rfl) (by simp) ?_
          refine (AllReadyH.cons (o := ⟨some 42, _, _, _, _, _⟩) rfl (fun K hK => ?_) AllReadyH.nil)
          go_simp
          refine (HWk.out _ M13.out.low).mono ?_
          rintro e w8 ⟨rfl, hb14⟩
          have M14 := Lib.hid (M13.out.below hb14)
          have D14 := Lib.hid (D13.out.below hb14)
          clear hb14
          go_wp2_with fail
          refine hK.out _ _ (M14.out.zs) (fun h14 => ?_)
          clear hK K
          try simp only [Act.put, List.setIfInBounds_toArray, List.set_cons_zero, List.set_cons_succ]
          refine wpAnyH_ready (rs := [9]) (by kernel_rfl) (by simp) ?_
          refine (AllReadyH.cons (o := ⟨none, _, _, _, _, _⟩) rfl (fun K hK => ?_) AllReadyH.nil)
          have y0 := D14.out.cell0
          have y1 := D14.out.cell1
          have y2 := D14.out.frozen0
          have y3 := D14.out.frozen1
          have y4 := D14.out.lt
          go_simp
          have MF := Lib.hid (M14.out.sput (l := l) (h := h) D14.out F12.out)
          refine hK.out _ _ (MF.out.dw.zs) (fun hF => ?_)
          clear hK K
          try simp only [Act.put, List.setIfInBounds_toArray, List.set_cons_zero, List.set_cons_succ]
          clear y0 y1 y2 y3 y4
          refine wpAnyH_done (by kernel_rfl) ?_ _
          have N0 := Lib.hid (MF.out.below (Below.refl _ _).drew)
          go_wp2_with fail
          refine wp_region_held_drew (S := fun w' => (w'.cell? ⟨bs, 0, none⟩ = some (.int .i64 l) ∧ w'.cell? ⟨bs, 1, none⟩ = some (.int .i64 h)) ∧ w'.cell? ⟨w.heap.size, 0, none⟩ = some (.int .i64 ((m : Int) - 1)) ∧ w'.cell? ⟨w.heap.size, 1, none⟩ = some (.slice (some ⟨ga, 0, none⟩) (m * m) ca)) (by kernel_rfl) N0.out.s (fun g0 => ?_)
          refine wpAnyH_take (i := 0) (oi := ⟨some 43, _, _, _, _, _⟩) (v := ?_) rfl (by kernel_rfl) (by kernel_rfl) (by kernel_rfl) (fun _ _ _ h => h) (Or.inl ⟨by rfl, ?_⟩) g0 ?_
          rotate_left
          · intro w hSw
            try dsimp only at hSw
            go_simp
            try with_reducible rfl
          try simp only [Act.put, List.setIfInBounds_toArray, List.set_cons_zero, List.set_cons_succ]
          refine wpAnyH_take (i := 1) (oi := ⟨some 44, _, _, _, _, _⟩) (v := ?_) rfl (by kernel_rfl) (by kernel_rfl) (by kernel_rfl) (fun _ _ _ h => h) (Or.inl ⟨by rfl, ?_⟩) g0 ?_
          rotate_left
          · intro w hSw
            try dsimp only at hSw
            go_simp
            try with_reducible rfl
          try simp only [Act.put, List.setIfInBounds_toArray, List.set_cons_zero, List.set_cons_succ]
          refine wpAnyH_take (i := 2) (oi := ⟨some 45, _, _, _, _, _⟩) (v := ?_) rfl (by kernel_rfl) (by kernel_rfl) (by kernel_rfl) (fun _ _ _ h => h) (Or.inl ⟨by rfl, ?_⟩) g0 ?_
          rotate_left
          · intro w hSw
            try dsimp only at hSw
            go_simp
            try with_reducible rfl
          try simp only [Act.put, List.setIfInBounds_toArray, List.set_cons_zero, List.set_cons_succ]
          refine wpAnyH_take (i := 3) (oi := ⟨some 46, _, _, _, _, _⟩) (v := ?_) rfl (by kernel_rfl) (by kernel_rfl) (by kernel_rfl) (fun _ _ _ h => h) (Or.inl ⟨by rfl, ?_⟩) g0 ?_
          rotate_left
          · intro w hSw
            try dsimp only at hSw
            go_simp
            try with_reducible rfl
          try simp only [Act.put, List.setIfInBounds_toArray, List.set_cons_zero, List.set_cons_succ]
          refine wpAnyH_ready (rs := [4]) (by kernel_rfl) (by simp) ?_
          refine (AllReadyH.cons (o := ⟨some 47, _, _, _, _, _⟩) rfl (fun K hK => ?_) AllReadyH.nil)
          go_simp
          refine (HAk.out _ N0.out.dw.low).mono ?_
          rintro e wa ⟨rfl, hba⟩
          have N1 := Lib.hid (N0.out.below hba)
          clear hba
          go_wp2_with fail
          refine hK.out _ _ (N1.out.s) (fun g1 => ?_)
          clear hK K
          try simp only [Act.put, List.setIfInBounds_toArray, List.set_cons_zero, List.set_cons_succ]
          refine wpAnyH_take (i := 5) (oi := ⟨some 48, _, _, _, _, _⟩) (v := ?_) rfl (by kernel_rfl) (by kernel_rfl) (by kernel_rfl) (fun _ _ _ h => h) (Or.inl ⟨by rfl, ?_⟩) g1 ?_
          rotate_left
          · intro w hSw
            try dsimp only at hSw
            go_simp
            try with_reducible rfl
          try simp only [Act.put, List.setIfInBounds_toArray, List.set_cons_zero, List.set_cons_succ]
          refine wpAnyH_ready (rs := [6]) (by kernel_rfl) (by simp) ?_
          refine (AllReadyH.cons (o := ⟨some 49, _, _, _, _, _⟩) rfl (fun K hK => ?_) AllReadyH.nil)
          have N2 := Lib.hid (N1.out.below (zboxed wa (.cells #[.bool (!sameB l h p q)] 4)))
          go_simp
          refine hK.out _ _ (N2.out.s) (fun g2 => ?_)
          clear hK K
          try simp only [Act.put, List.setIfInBounds_toArray, List.set_cons_zero, List.set_cons_succ]
          refine wpAnyH_ready (rs := [7]) (by kernel_rfl) (by simp) ?_
          refine (AllReadyH.cons (o := ⟨some 50, _, _, _, _, _⟩) rfl (fun K hK => ?_) AllReadyH.nil)
          rw [if_pos (by rfl)]
          refine wp_append_at (.tmp 43) (.tmp 49) 72 rfl (bd + 1) 4 i0 (.bool false) 1 1 Tryz.underlying72 hi0 hz0 hz1 hz2 rfl (by decide) v k (boolsL k (farB f n C B)) rfl N2.out.dw.rowF ⟨wa.heap.size, 0, none⟩ 1 1 [.bool (!sameB l h p q)] rfl rfl (news_one wa _ _) (by simp [Value.oneCell']) HM.out.1 HM.out.2 (Nat.succ_le_of_lt N2.out.dw.zo.lt) ?_
          intro v7 wb ho7 hg7 hl7
          have N3 := Lib.hid (HAdd.out _ _ _ _ _ _ _ N1.out ho7 hg7 hl7)
          clear ho7 hg7 hl7
          refine hK.out _ _ (N3.out.s) (fun g3 => ?_)
          clear hK K
          try simp only [Act.put, List.setIfInBounds_toArray, List.set_cons_zero, List.set_cons_succ]
          refine wpAnyH_take (i := 8) (oi := ⟨some 8, _, _, _, _, _⟩) (v := ?_) rfl (by kernel_rfl) (by kernel_rfl) (by kernel_rfl) (fun _ _ _ h => h) (Or.inl ⟨by rfl, ?_⟩) g3 ?_
          rotate_left
          · intro w hSw
            try dsimp only at hSw
            go_simp
            try with_reducible rfl
          try simp only [Act.put, List.setIfInBounds_toArray, List.set_cons_zero, List.set_cons_succ]
          refine wpAnyH_done (by kernel_rfl) ?_ _
          have O0 := Lib.hid (N3.out.below (Below.refl _ _).drew)
          go_wp2_with fail
          have x0 := O0.out.dw.zo.cell0
          have x1 := O0.out.dw.zo.cell1
          have s0 := O0.out.sb.cell0
          have s1 := O0.out.sb.cell1
          go_region_with (first
            | (go_at_call 49; ((with_reducible refine (HW1.out _ _ _ _ _ O0.out.dw).mono ?_); rintro e wc ⟨gc, cc, rfl, hrc, hbc⟩); have P1 := Lib.hid (O0.out.below hbc); have R1 := Lib.hid hrc; have s0 := P1.out.sb.cell0; have s1 := P1.out.sb.cell1; clear hbc hrc)
            | (go_at_call 49; ((with_reducible refine (HW2.out _ _ _ _ R1.out).mono ?_); rintro e wd ⟨ge, ce, rfl, hrd, hbd⟩); have P2 := Lib.hid (P1.out.below hbd); have R2 := Lib.hid hrd; have b0 := P2.out.dw.zo.frozen0; have b1 := P2.out.dw.zo.frozen1; have b2 := P2.out.dw.zo.lt; have b3 := P2.out.dw.zo.cell0; have b4 := P2.out.dw.zo.cell1; clear hbd hrd))
          all_goals go_wp2_with fail
          all_goals
            have hk' := HK.out
            go_roundg (gr - 1)
            case measure => omega
            case rel => exact ⟨k, k + 1, _, ge, ce, rfl, by omega, by omega, by simp, rfl, P2.out.dw.put R2.out (P1.out.dw.later R2.out (Nat.le_refl _))⟩
      · have M17 := Lib.hid (M0.out.below (zboxed _ (.cells #[.int .i64 0, .int .i64 0] 78)))
        have D17 := Lib.hid (Duo.new wr.drew 78 (.int .i64 0) (.int .i64 0))
        have F17 : Hid (bd + 1 ≤ wr.drew.heap.size) := Lib.hid (by have := M0.out.zo.lt; omega)
        go_simp
        refine hK.out _ _ (M17.out.zs) (fun h17 => ?_)
        clear hK K
        try simp only [Act.put, List.setIfInBounds_toArray, List.set_cons_zero, List.set_cons_succ]
        obtain ⟨bs, hbs⟩ : ∃ x, wr.heap.size = x := ⟨_, rfl⟩
        have F17 : Hid (bd + 1 ≤ bs) := Lib.hid (by rw [← hbs]; exact F17.out)
        have D17 : Hid (Duo _ bs _ _ _) := Lib.hid (by rw [← hbs]; exact D17.out)
        rw [hbs]
        clear hbs
        refine wpAnyH_ready (rs := [2]) (by kernel_rfl) (by simp) ?_
        refine (AllReadyH.cons (o := ⟨some 37, _, _, _, _, _⟩) rfl (fun K hK => ?_) AllReadyH.nil)
        go_simp
        refine (HAk.out _ M17.out.low).mono ?_
        rintro e w6 ⟨rfl, hb18⟩
        have M18 := Lib.hid (M17.out.below hb18)
        have D18 := Lib.hid (D17.out.below hb18)
        clear hb18
        go_wp2_with fail
        refine hK.out _ _ (M18.out.zs) (fun h18 => ?_)
        clear hK K
        try simp only [Act.put, List.setIfInBounds_toArray, List.set_cons_zero, List.set_cons_succ]
        refine wpAnyH_ready (rs := [5]) (by kernel_rfl) (by simp) ?_
        refine (AllReadyH.cons (o := ⟨some 40, _, _, _, _, _⟩) rfl (fun K hK => ?_) AllReadyH.nil)
        go_simp
        refine (HBk.out _ M18.out.low).mono ?_
        rintro e w7 ⟨rfl, hb19⟩
        have M19 := Lib.hid (M18.out.below hb19)
        have D19 := Lib.hid (D18.out.below hb19)
        clear hb19
        go_wp2_with fail
        refine hK.out _ _ (M19.out.zs) (fun h19 => ?_)
        clear hK K
        try simp only [Act.put, List.setIfInBounds_toArray, List.set_cons_zero, List.set_cons_succ]
        refine wpAnyH_ready (rs := [7]) (by kernel_rfl) (by simp) ?_
        refine (AllReadyH.cons (o := ⟨some 42, _, _, _, _, _⟩) rfl (fun K hK => ?_) AllReadyH.nil)
        go_simp
        refine (HWk.out _ M19.out.low).mono ?_
        rintro e w8 ⟨rfl, hb20⟩
        have M20 := Lib.hid (M19.out.below hb20)
        have D20 := Lib.hid (D19.out.below hb20)
        clear hb20
        go_wp2_with fail
        refine hK.out _ _ (M20.out.zs) (fun h20 => ?_)
        clear hK K
        try simp only [Act.put, List.setIfInBounds_toArray, List.set_cons_zero, List.set_cons_succ]
        refine wpAnyH_ready (rs := [9]) (by kernel_rfl) (by simp) ?_
        refine (AllReadyH.cons (o := ⟨none, _, _, _, _, _⟩) rfl (fun K hK => ?_) AllReadyH.nil)
        have y0 := D20.out.cell0
        have y1 := D20.out.cell1
        have y2 := D20.out.frozen0
        have y3 := D20.out.frozen1
        have y4 := D20.out.lt
        go_simp
        have MF := Lib.hid (M20.out.sput (l := l) (h := h) D20.out F17.out)
        refine hK.out _ _ (MF.out.dw.zs) (fun hF => ?_)
        clear hK K
        try simp only [Act.put, List.setIfInBounds_toArray, List.set_cons_zero, List.set_cons_succ]
        clear y0 y1 y2 y3 y4
        refine wpAnyH_done (by kernel_rfl) ?_ _
        have N0 := Lib.hid (MF.out.below (Below.refl _ _).drew)
        go_wp2_with fail
        refine wp_region_held_drew (S := fun w' => (w'.cell? ⟨bs, 0, none⟩ = some (.int .i64 l) ∧ w'.cell? ⟨bs, 1, none⟩ = some (.int .i64 h)) ∧ w'.cell? ⟨w.heap.size, 0, none⟩ = some (.int .i64 ((m : Int) - 1)) ∧ w'.cell? ⟨w.heap.size, 1, none⟩ = some (.slice (some ⟨ga, 0, none⟩) (m * m) ca)) (by kernel_rfl) N0.out.s (fun g0 => ?_)
        refine wpAnyH_take (i := 0) (oi := ⟨some 43, _, _, _, _, _⟩) (v := ?_) rfl (by kernel_rfl) (by kernel_rfl) (by kernel_rfl) (fun _ _ _ h => h) (Or.inl ⟨by rfl, ?_⟩) g0 ?_
        rotate_left
        · intro w hSw
          try dsimp only at hSw
          go_simp
          try with_reducible rfl
        try simp only [Act.put, List.setIfInBounds_toArray, List.set_cons_zero, List.set_cons_succ]
        refine wpAnyH_take (i := 1) (oi := ⟨some 44, _, _, _, _, _⟩) (v := ?_) rfl (by kernel_rfl) (by kernel_rfl) (by kernel_rfl) (fun _ _ _ h => h) (Or.inl ⟨by rfl, ?_⟩) g0 ?_
        rotate_left
        · intro w hSw
          try dsimp only at hSw
          go_simp
          try with_reducible rfl
        try simp only [Act.put, List.setIfInBounds_toArray, List.set_cons_zero, List.set_cons_succ]
        refine wpAnyH_take (i := 2) (oi := ⟨some 45, _, _, _, _, _⟩) (v := ?_) rfl (by kernel_rfl) (by kernel_rfl) (by kernel_rfl) (fun _ _ _ h => h) (Or.inl ⟨by rfl, ?_⟩) g0 ?_
        rotate_left
        · intro w hSw
          try dsimp only at hSw
          go_simp
          try with_reducible rfl
        try simp only [Act.put, List.setIfInBounds_toArray, List.set_cons_zero, List.set_cons_succ]
        refine wpAnyH_take (i := 3) (oi := ⟨some 46, _, _, _, _, _⟩) (v := ?_) rfl (by kernel_rfl) (by kernel_rfl) (by kernel_rfl) (fun _ _ _ h => h) (Or.inl ⟨by rfl, ?_⟩) g0 ?_
        rotate_left
        · intro w hSw
          try dsimp only at hSw
          go_simp
          try with_reducible rfl
        try simp only [Act.put, List.setIfInBounds_toArray, List.set_cons_zero, List.set_cons_succ]
        refine wpAnyH_ready (rs := [4]) (by kernel_rfl) (by simp) ?_
        refine (AllReadyH.cons (o := ⟨some 47, _, _, _, _, _⟩) rfl (fun K hK => ?_) AllReadyH.nil)
        go_simp
        refine (HAk.out _ N0.out.dw.low).mono ?_
        rintro e wa ⟨rfl, hba⟩
        have N1 := Lib.hid (N0.out.below hba)
        clear hba
        go_wp2_with fail
        refine hK.out _ _ (N1.out.s) (fun g1 => ?_)
        clear hK K
        try simp only [Act.put, List.setIfInBounds_toArray, List.set_cons_zero, List.set_cons_succ]
        refine wpAnyH_take (i := 5) (oi := ⟨some 48, _, _, _, _, _⟩) (v := ?_) rfl (by kernel_rfl) (by kernel_rfl) (by kernel_rfl) (fun _ _ _ h => h) (Or.inl ⟨by rfl, ?_⟩) g1 ?_
        rotate_left
        · intro w hSw
          try dsimp only at hSw
          go_simp
          try with_reducible rfl
        try simp only [Act.put, List.setIfInBounds_toArray, List.set_cons_zero, List.set_cons_succ]
        refine wpAnyH_ready (rs := [6]) (by kernel_rfl) (by simp) ?_
        refine (AllReadyH.cons (o := ⟨some 49, _, _, _, _, _⟩) rfl (fun K hK => ?_) AllReadyH.nil)
        have N2 := Lib.hid (N1.out.below (zboxed wa (.cells #[.bool (!sameB l h p q)] 4)))
        go_simp
        refine hK.out _ _ (N2.out.s) (fun g2 => ?_)
        clear hK K
        try simp only [Act.put, List.setIfInBounds_toArray, List.set_cons_zero, List.set_cons_succ]
        refine wpAnyH_ready (rs := [7]) (by kernel_rfl) (by simp) ?_
        refine (AllReadyH.cons (o := ⟨some 50, _, _, _, _, _⟩) rfl (fun K hK => ?_) AllReadyH.nil)
        rw [if_pos (by rfl)]
        refine wp_append_at (.tmp 43) (.tmp 49) 72 rfl (bd + 1) 4 i0 (.bool false) 1 1 Tryz.underlying72 hi0 hz0 hz1 hz2 rfl (by decide) v k (boolsL k (farB f n C B)) rfl N2.out.dw.rowF ⟨wa.heap.size, 0, none⟩ 1 1 [.bool (!sameB l h p q)] rfl rfl (news_one wa _ _) (by simp [Value.oneCell']) HM.out.1 HM.out.2 (Nat.succ_le_of_lt N2.out.dw.zo.lt) ?_
        intro v7 wb ho7 hg7 hl7
        have N3 := Lib.hid (HAdd.out _ _ _ _ _ _ _ N1.out ho7 hg7 hl7)
        clear ho7 hg7 hl7
        refine hK.out _ _ (N3.out.s) (fun g3 => ?_)
        clear hK K
        try simp only [Act.put, List.setIfInBounds_toArray, List.set_cons_zero, List.set_cons_succ]
        refine wpAnyH_take (i := 8) (oi := ⟨some 8, _, _, _, _, _⟩) (v := ?_) rfl (by kernel_rfl) (by kernel_rfl) (by kernel_rfl) (fun _ _ _ h => h) (Or.inl ⟨by rfl, ?_⟩) g3 ?_
        rotate_left
        · intro w hSw
          try dsimp only at hSw
          go_simp
          try with_reducible rfl
        try simp only [Act.put, List.setIfInBounds_toArray, List.set_cons_zero, List.set_cons_succ]
        refine wpAnyH_done (by kernel_rfl) ?_ _
        have O0 := Lib.hid (N3.out.below (Below.refl _ _).drew)
        go_wp2_with fail
        have x0 := O0.out.dw.zo.cell0
        have x1 := O0.out.dw.zo.cell1
        have s0 := O0.out.sb.cell0
        have s1 := O0.out.sb.cell1
        go_region_with (first
          | (go_at_call 49; ((with_reducible refine (HW1.out _ _ _ _ _ O0.out.dw).mono ?_); rintro e wc ⟨gc, cc, rfl, hrc, hbc⟩); have P1 := Lib.hid (O0.out.below hbc); have R1 := Lib.hid hrc; have s0 := P1.out.sb.cell0; have s1 := P1.out.sb.cell1; clear hbc hrc)
          | (go_at_call 49; ((with_reducible refine (HW2.out _ _ _ _ R1.out).mono ?_); rintro e wd ⟨ge, ce, rfl, hrd, hbd⟩); have P2 := Lib.hid (P1.out.below hbd); have R2 := Lib.hid hrd; have b0 := P2.out.dw.zo.frozen0; have b1 := P2.out.dw.zo.frozen1; have b2 := P2.out.dw.zo.lt; have b3 := P2.out.dw.zo.cell0; have b4 := P2.out.dw.zo.cell1; clear hbd hrd))
        all_goals go_wp2_with fail
        all_goals
          have hk' := HK.out
          go_roundg (gr - 1)
          case measure => omega
          case rel => exact ⟨k, k + 1, _, ge, ce, rfl, by omega, by omega, by simp, rfl, P2.out.dw.put R2.out (P1.out.dw.later R2.out (Nat.le_refl _))⟩
    · have d4 : decide ((k : Int) ≤ (m : Int) - 1) = false := decide_eq_false (by omega)
      have hX : DW w m ga ca gb cb bd gd cd (dSp f n C B u) v m (farB f n C B) wr := by
        have e1 : j = u := by have := HK.out; have := HU.out; omega
        have e2 : k = m := by have := HK.out; omega
        have := X.out
        rw [e1, e2] at this
        exact this
      have XX := Lib.hid hX
      obtain ⟨gf, cf, hv⟩ := slice_own hX.rowF H0.out
      subst hv
      have hlit := World.ownsRow_lit (base := wr.heap.size) (e := 4) (size := 1) wr #[] 0 (Nat.le_refl _) (by unfold maxLen; omega) rfl
      have HLit := Lib.hid hlit
      have HNews : Hid (∀ (j : Nat) u, (boolsL m (farB f n C B))[j]? = some u → (wr.alloc (.cells #[] 4)).cell? ((⟨gf, 0, none⟩ : Addr).add j) = some u) := Lib.hid fun j u hu => by
        have hb := zboxed wr (.cells #[] 4)
        rw [Addr.add_lit, Nat.zero_add, hb.cell (p := ⟨gf, j, none⟩) (hX.rowF.lt gf rfl).2, hX.rowF.cellAt j (by have := (List.getElem?_eq_some_iff.1 hu).1; rw [boolsL_len] at this; omega)]
        exact hu
      have HSz : Hid ((boolsL m (farB f n C B)).length = m * 1 ∧ 0 + m ≤ maxLen ∧ (0 + m) * 1 ≤ 140737488355328 ∧ wr.heap.size ≤ (wr.alloc (.cells #[] 4)).heap.size) := Lib.hid ⟨by rw [boolsL_len]; omega, by have := H7.out; unfold maxLen; omega, by have := H7.out; omega, by simp⟩
      have HQ : Hid (∀ W gt ct, (wr.alloc (.cells #[] 4)).grownBy W (some wr.heap.size) → W.ownsRow wr.heap.size 4 1 (.slice (some ⟨gt, 0, none⟩) m ct) m (boolsL m (farB f n C B)) → DT w m ga ca gb cb bd gd cd (dSp f n C B u) gf cf (farB f n C B) gt ct (farB f n C B) W) := Lib.hid fun W gt ct hg ho => by
        have hb := (zboxed wr (.cells #[] 4)).grown hg (by simp) (fun k hk => by injection hk with hk; omega)
        have h1 := (hX.rowF.lt gf rfl).2
        have h2 := (hX.rowE.row.lt gd rfl).2
        have h3 := (ho.lt gt rfl).1
        exact ⟨hX.below hb, own_lower ho (by have := hX.zo.lt; omega), by omega, by omega⟩
      clear hX hlit X HK hkm
      go_wp2_with (at_builtin; refine wpList_append_bat rfl _ _ 72 rfl wr.heap.size 4 i0 (.bool false) 1 1 Tryz.underlying72 hi0 hz0 hz1 hz2 rfl (by decide) _ _ _ rfl HLit.out ⟨gf, 0, none⟩ m cf (boolsL m (farB f n C B)) rfl HSz.out.1 HNews.out (boolsL_one _ _) HSz.out.2.1 HSz.out.2.2.1 HSz.out.2.2.2 ?_; intro v6 w6 ho hg hl; (rw [Nat.zero_add, List.nil_append] at ho); obtain ⟨gt, ct, hv6⟩ := slice_own ho H0.out; subst hv6; have Y := Lib.hid (HQ.out _ _ _ hg ho); clear ho hg hl)
      clear a0 a1 HLit HNews HSz HQ XX
      go_loopg [12] m (fun gk s wr => ∃ (p i : Nat), i = p + 1 ∧ i ≤ m ∧ p + gk = m ∧ s = .int .i64 (i : Int) ∧ DT w m ga ca gb cb bd gd cd (dSp f n C B u) gf cf (farB f n C B) gt ct (tAll f n C B u p) wr)
      case atStart => exact ⟨0, 1, rfl, H0.out, by omega, rfl, Y.out⟩
      case round =>
        rename Nat => g1
        clear Y
        obtain ⟨p, i, hi', hi2, hi3, rfl, hD⟩ := hrel
        have HI := Lib.hid (And.intro hi' (And.intro hi2 hi3))
        have Y := Lib.hid hD
        clear hi' hi2 hi3 hD
        have a0 := Y.out.dw.za.cell0
        have a1 := Y.out.dw.za.lt
        by_cases him : i < m
        · have d4 : decide ((i : Int) ≤ (m : Int) - 1) = true := decide_eq_true (by omega)
          go_wp2_with fail
          clear a0 a1
          go_loopg [13] m (fun gk s wr => ∃ (q j : Nat), j = q + 1 ∧ j ≤ m ∧ q + gk = m ∧ s = .int .i64 (j : Int) ∧ DT w m ga ca gb cb bd gd cd (dSp f n C B u) gf cf (farB f n C B) gt ct (tRow f n C B (tAll f n C B u p) p q) wr)
          case atStart => exact ⟨0, 1, rfl, H0.out, by omega, rfl, Y.out⟩
          case round =>
            rename Nat => g2
            clear Y
            obtain ⟨q, j, hj', hj2, hj3, rfl, hD⟩ := hrel
            have HJ := Lib.hid (And.intro hj' (And.intro hj2 hj3))
            have Y := Lib.hid hD
            clear hj' hj2 hj3 hD
            have a0 := Y.out.dw.za.cell0
            have a1 := Y.out.dw.za.lt
            by_cases hjm : j < m
            · have d5 : decide ((j : Int) ≤ (m : Int) - 1) = true := decide_eq_true (by omega)
              have wj : IntKind.i64.wrap ((j : Int) + 1) = (j : Int) + 1 := IntWalk.i64_in _ (by have := H7.out; omega)
              have hi' : (i : Int) < (m : Int) := by omega
              have hj' : (j : Int) < (m : Int) := by omega
              have HGa' := Lib.hid (HGa.out i j him hjm)
              have HGb' := Lib.hid (HGb.out i j him hjm)
              have HTy : Hid ((!farB f n C B i && (!farB f n C B j && decide (C i j < B i j))) = true → ∀ k, (if k = j then true else if k = i then true else tRow f n C B (tAll f n C B u p) p q k) = tRow f n C B (tAll f n C B u p) p (q + 1) k) := Lib.hid (by rw [HI.out.1, HJ.out.1]; exact fun h k => tstep_yes h)
              have HTn : Hid ((!farB f n C B i && (!farB f n C B j && decide (C i j < B i j))) = false → ∀ k, tRow f n C B (tAll f n C B u p) p q k = tRow f n C B (tAll f n C B u p) p (q + 1) k) := Lib.hid (by rw [HI.out.1, HJ.out.1]; exact fun h k => tstep_no h)
              have Y0 := Lib.hid (Y.out.below (Below.refl _ _).drew)
              go_wp2_with fail
              clear a0 a1
              have HS : Hid (∀ W', DT w m ga ca gb cb bd gd cd (dSp f n C B u) gf cf (farB f n C B) gt ct (tRow f n C B (tAll f n C B u p) p q) W' → (W'.cell? ⟨gf, i, none⟩ = some (.bool (farB f n C B i)) ∧ W'.cell? ⟨gf, j, none⟩ = some (.bool (farB f n C B j))) ∧ (W'.cell? ⟨w.heap.size, 0, none⟩ = some (.int .i64 ((m : Int) - 1)) ∧ W'.cell? ⟨w.heap.size, 1, none⟩ = some (.slice (some ⟨ga, 0, none⟩) (m * m) ca)) ∧ W'.cell? ⟨w.heap.size + 1, 0, none⟩ = some (.int .i64 ((m : Int) - 1)) ∧ W'.cell? ⟨w.heap.size + 1, 1, none⟩ = some (.slice (some ⟨gb, 0, none⟩) (m * m) cb)) := Lib.hid fun W' h => h.s him hjm
              cases qi : farB f n C B i
              · cases qj : farB f n C B j
                · rw [qi, qj] at HS HTy HTn
                  by_cases hlt : C i j < B i j
                  · have hd : decide (C i j < B i j) = true := decide_eq_true hlt
                    rw [hd] at HTy
                    refine wp_region_held_drew (S := fun w' => (w'.cell? ⟨gf, i, none⟩ = some (.bool false) ∧ w'.cell? ⟨gf, j, none⟩ = some (.bool false)) ∧ (w'.cell? ⟨w.heap.size, 0, none⟩ = some (.int .i64 ((m : Int) - 1)) ∧ w'.cell? ⟨w.heap.size, 1, none⟩ = some (.slice (some ⟨ga, 0, none⟩) (m * m) ca)) ∧ w'.cell? ⟨w.heap.size + 1, 0, none⟩ = some (.int .i64 ((m : Int) - 1)) ∧ w'.cell? ⟨w.heap.size + 1, 1, none⟩ = some (.slice (some ⟨gb, 0, none⟩) (m * m) cb)) (by kernel_rfl) (HS.out _ Y0.out) (fun hH0 => ?_)
                    refine wpAnyH_take (i := 0) (oi := ⟨some 76, _, _, _, _, _⟩) (v := ?_) rfl (by kernel_rfl) (by kernel_rfl) (by kernel_rfl) (fun _ _ _ h => h) (Or.inl ⟨by rfl, ?_⟩) hH0 ?_
                    rotate_left
                    · intro w hSw
                      try dsimp only at hSw
                      go_simp
                      try with_reducible rfl
                    try simp only [Act.put, List.setIfInBounds_toArray, List.set_cons_zero, List.set_cons_succ]
                    refine wpAnyH_take (i := 1) (oi := ⟨some 77, _, _, _, _, _⟩) (v := ?_) rfl (by kernel_rfl) (by kernel_rfl) (by kernel_rfl) (fun _ _ _ h => h) (Or.inl ⟨by rfl, ?_⟩) hH0 ?_
                    rotate_left
                    · intro w hSw
                      try dsimp only at hSw
                      go_simp
                      try with_reducible rfl
                    try simp only [Act.put, List.setIfInBounds_toArray, List.set_cons_zero, List.set_cons_succ]
                    refine wpAnyH_take (i := 2) (oi := ⟨some 78, _, _, _, _, _⟩) (v := ?_) rfl (by kernel_rfl) (by kernel_rfl) (by kernel_rfl) (fun _ _ _ h => h) (Or.inl ⟨by rfl, ?_⟩) hH0 ?_
                    rotate_left
                    · intro w hSw
                      try dsimp only at hSw
                      go_simp
                      try with_reducible rfl
                    try simp only [Act.put, List.setIfInBounds_toArray, List.set_cons_zero, List.set_cons_succ]
                    refine wpAnyH_take (i := 3) (oi := ⟨some 79, _, _, _, _, _⟩) (v := ?_) rfl (by kernel_rfl) (by kernel_rfl) (by kernel_rfl) (fun _ _ _ h => h) (Or.inl ⟨by rfl, ?_⟩) hH0 ?_
                    rotate_left
                    · intro w hSw
                      try dsimp only at hSw
                      go_simp
                      try with_reducible rfl
                    try simp only [Act.put, List.setIfInBounds_toArray, List.set_cons_zero, List.set_cons_succ]
                    refine wpAnyH_take (i := 4) (oi := ⟨some 80, _, _, _, _, _⟩) (v := ?_) rfl (by kernel_rfl) (by kernel_rfl) (by kernel_rfl) (fun _ _ _ h => h) (Or.inl ⟨by rfl, ?_⟩) hH0 ?_
                    rotate_left
                    · intro w hSw
                      try dsimp only at hSw
                      go_simp
                      try with_reducible rfl
                    try simp only [Act.put, List.setIfInBounds_toArray, List.set_cons_zero, List.set_cons_succ]
                    refine wpAnyH_take (i := 5) (oi := ⟨some 81, _, _, _, _, _⟩) (v := ?_) rfl (by kernel_rfl) (by kernel_rfl) (by kernel_rfl) (fun _ _ _ h => h) (Or.inl ⟨by rfl, ?_⟩) hH0 ?_
                    rotate_left
                    · intro w hSw
                      try dsimp only at hSw
                      go_simp
                      try with_reducible rfl
                    try simp only [Act.put, List.setIfInBounds_toArray, List.set_cons_zero, List.set_cons_succ]
                    refine wpAnyH_take (i := 6) (oi := ⟨some 82, _, _, _, _, _⟩) (v := ?_) rfl (by kernel_rfl) (by kernel_rfl) (by kernel_rfl) (fun _ _ _ h => h) (Or.inl ⟨by rfl, ?_⟩) hH0 ?_
                    rotate_left
                    · intro w hSw
                      try dsimp only at hSw
                      go_simp
                      try with_reducible rfl
                    try simp only [Act.put, List.setIfInBounds_toArray, List.set_cons_zero, List.set_cons_succ]
                    refine wpAnyH_take (i := 7) (oi := ⟨some 83, _, _, _, _, _⟩) (v := ?_) rfl (by kernel_rfl) (by kernel_rfl) (by kernel_rfl) (fun _ _ _ h => h) (Or.inl ⟨by rfl, ?_⟩) hH0 ?_
                    rotate_left
                    · intro w hSw
                      try dsimp only at hSw
                      go_simp
                      try with_reducible rfl
                    try simp only [Act.put, List.setIfInBounds_toArray, List.set_cons_zero, List.set_cons_succ]
                    refine wpAnyH_take (i := 8) (oi := ⟨some 84, _, _, _, _, _⟩) (v := ?_) rfl (by kernel_rfl) (by kernel_rfl) (by kernel_rfl) (fun _ _ _ h => h) (Or.inl ⟨by rfl, ?_⟩) hH0 ?_
                    rotate_left
                    · intro w hSw
                      try dsimp only at hSw
                      go_simp
                      try with_reducible rfl
                    try simp only [Act.put, List.setIfInBounds_toArray, List.set_cons_zero, List.set_cons_succ]
                    refine wpAnyH_take (i := 9) (oi := ⟨some 85, _, _, _, _, _⟩) (v := ?_) rfl (by kernel_rfl) (by kernel_rfl) (by kernel_rfl) (fun _ _ _ h => h) (Or.inl ⟨by rfl, ?_⟩) hH0 ?_
                    rotate_left
                    · intro w hSw
                      try dsimp only at hSw
                      go_simp
                      try with_reducible rfl
                    try simp only [Act.put, List.setIfInBounds_toArray, List.set_cons_zero, List.set_cons_succ]
                    refine wpAnyH_take (i := 10) (oi := ⟨some 86, _, _, _, _, _⟩) (v := ?_) rfl (by kernel_rfl) (by kernel_rfl) (by kernel_rfl) (fun _ _ _ h => h) (Or.inl ⟨by rfl, ?_⟩) hH0 ?_
                    rotate_left
                    · intro w hSw
                      try dsimp only at hSw
                      go_simp
                      try with_reducible rfl
                    try simp only [Act.put, List.setIfInBounds_toArray, List.set_cons_zero, List.set_cons_succ]
                    refine wpAnyH_take (i := 11) (oi := ⟨some 87, _, _, _, _, _⟩) (v := ?_) rfl (by kernel_rfl) (by kernel_rfl) (by kernel_rfl) (fun _ _ _ h => h) (Or.inl ⟨by rfl, ?_⟩) hH0 ?_
                    rotate_left
                    · intro w hSw
                      try dsimp only at hSw
                      go_simp
                      try with_reducible rfl
                    try simp only [Act.put, List.setIfInBounds_toArray, List.set_cons_zero, List.set_cons_succ]
                    refine wpAnyH_take (i := 12) (oi := ⟨some 88, _, _, _, _, _⟩) (v := ?_) rfl (by kernel_rfl) (by kernel_rfl) (by kernel_rfl) (fun _ _ _ h => h) (Or.inl ⟨by rfl, ?_⟩) hH0 ?_
                    rotate_left
                    · intro w hSw
                      try dsimp only at hSw
                      go_simp
                      try with_reducible rfl
                    try simp only [Act.put, List.setIfInBounds_toArray, List.set_cons_zero, List.set_cons_succ]
                    refine wpAnyH_take (i := 13) (oi := ⟨some 89, _, _, _, _, _⟩) (v := ?_) rfl (by kernel_rfl) (by kernel_rfl) (by kernel_rfl) (fun _ _ _ h => h) (Or.inl ⟨by rfl, ?_⟩) hH0 ?_
                    rotate_left
                    · intro w hSw
                      try dsimp only at hSw
                      go_simp
                      try with_reducible rfl
                    try simp only [Act.put, List.setIfInBounds_toArray, List.set_cons_zero, List.set_cons_succ]
                    refine wpAnyH_take (i := 14) (oi := ⟨some 90, _, _, _, _, _⟩) (v := ?_) rfl (by kernel_rfl) (by kernel_rfl) (by kernel_rfl) (fun _ _ _ h => h) (Or.inl ⟨by rfl, ?_⟩) hH0 ?_
                    rotate_left
                    · intro w hSw
                      try dsimp only at hSw
                      go_simp
                      try with_reducible rfl
                    try simp only [Act.put, List.setIfInBounds_toArray, List.set_cons_zero, List.set_cons_succ]
                    refine wpAnyH_take (i := 15) (oi := ⟨some 91, _, _, _, _, _⟩) (v := ?_) rfl (by kernel_rfl) (by kernel_rfl) (by kernel_rfl) (fun _ _ _ h => h) (Or.inl ⟨by rfl, ?_⟩) hH0 ?_
                    rotate_left
                    · intro w hSw
                      try dsimp only at hSw
                      go_simp
                      try with_reducible rfl
                    try simp only [Act.put, List.setIfInBounds_toArray, List.set_cons_zero, List.set_cons_succ]
                    refine wpAnyH_take (i := 17) (oi := ⟨some 93, _, _, _, _, _⟩) (v := ?_) rfl (by kernel_rfl) (by kernel_rfl) (by kernel_rfl) (fun _ _ _ h => h) (Or.inl ⟨by rfl, ?_⟩) hH0 ?_
                    rotate_left
                    · intro w hSw
                      try dsimp only at hSw
                      go_simp
                      try with_reducible rfl
                    try simp only [Act.put, List.setIfInBounds_toArray, List.set_cons_zero, List.set_cons_succ]
                    refine wpAnyH_take (i := 18) (oi := ⟨some 94, _, _, _, _, _⟩) (v := ?_) rfl (by kernel_rfl) (by kernel_rfl) (by kernel_rfl) (fun _ _ _ h => h) (Or.inl ⟨by rfl, ?_⟩) hH0 ?_
                    rotate_left
                    · intro w hSw
                      try dsimp only at hSw
                      go_simp
                      try with_reducible rfl
                    try simp only [Act.put, List.setIfInBounds_toArray, List.set_cons_zero, List.set_cons_succ]
                    refine wpAnyH_take (i := 19) (oi := ⟨some 95, _, _, _, _, _⟩) (v := ?_) rfl (by kernel_rfl) (by kernel_rfl) (by kernel_rfl) (fun _ _ _ h => h) (Or.inl ⟨by rfl, ?_⟩) hH0 ?_
                    rotate_left
                    · intro w hSw
                      try dsimp only at hSw
                      go_simp
                      try with_reducible rfl
                    try simp only [Act.put, List.setIfInBounds_toArray, List.set_cons_zero, List.set_cons_succ]
                    refine wpAnyH_ready (rs := [16]) (by kernel_rfl) (by simp) ?_
                    refine AllReadyH.cons (o := ⟨some 92, _, _, _, _, _⟩) rfl (fun K hK => ?_) AllReadyH.nil
                    go_simp
                    refine (HGb'.out _ Y0.out.dw.low).mono ?_
                    rintro e w6 ⟨rfl, hb6⟩
                    have Y1 := Lib.hid (Y0.out.below hb6); clear hb6
                    go_wp2_with fail
                    refine hK.out _ _ (HS.out _ Y1.out) (fun hH1 => ?_)
                    clear hK K hH0
                    try simp only [Act.put, List.setIfInBounds_toArray, List.set_cons_zero, List.set_cons_succ]
                    refine wpAnyH_ready (rs := [20]) (by kernel_rfl) (by simp) ?_
                    refine AllReadyH.cons (o := ⟨some 96, _, _, _, _, _⟩) rfl (fun K hK => ?_) AllReadyH.nil
                    go_simp
                    refine (HGa'.out _ Y1.out.dw.low).mono ?_
                    rintro e w7 ⟨rfl, hb7⟩
                    have Y2 := Lib.hid (Y1.out.below hb7); clear hb7
                    go_wp2_with fail
                    refine hK.out _ _ (HS.out _ Y2.out) (fun hH2 => ?_)
                    clear hK K hH1
                    try simp only [Act.put, List.setIfInBounds_toArray, List.set_cons_zero, List.set_cons_succ]
                    refine wpAnyH_take (i := 21) (oi := ⟨some 97, _, _, _, _, _⟩) (v := ?_) rfl (by kernel_rfl) (by kernel_rfl) (by kernel_rfl) (fun _ _ _ h => h) (Or.inl ⟨by rfl, ?_⟩) hH2 ?_
                    rotate_left
                    · intro w hSw
                      try dsimp only at hSw
                      go_simp
                      try with_reducible rfl
                    try simp only [Act.put, List.setIfInBounds_toArray, List.set_cons_zero, List.set_cons_succ]
                    refine wpAnyH_take (i := 22) (oi := ⟨some 98, _, _, _, _, _⟩) (v := ?_) rfl (by kernel_rfl) (by kernel_rfl) (by kernel_rfl) (fun _ _ _ h => h) (Or.inl ⟨by rfl, ?_⟩) hH2 ?_
                    rotate_left
                    · intro w hSw
                      try dsimp only at hSw
                      go_simp
                      try with_reducible rfl
                    try simp only [Act.put, List.setIfInBounds_toArray, List.set_cons_zero, List.set_cons_succ]
                    refine wpAnyH_done (by kernel_rfl) ?_ _
                    obtain ⟨c0, c1, c2⟩ := Y2.out.at_ him
                    have Y3 := Lib.hid (Y2.out.set him)
                    obtain ⟨e0, e1, e2⟩ := Y3.out.at_ hjm
                    go_wp2_with fail
                    have hjj := HJ.out
                    go_roundg (g2 - 1)
                    case measure => omega
                    case rel => exact ⟨q + 1, j + 1, by omega, by omega, by omega, by simp, (Y3.out.set hjm).congr fun k _ => HTy.out rfl k⟩
                  · have hd : decide (C i j < B i j) = false := decide_eq_false hlt
                    rw [hd] at HTn
                    refine wp_region_held_drew (S := fun w' => (w'.cell? ⟨gf, i, none⟩ = some (.bool false) ∧ w'.cell? ⟨gf, j, none⟩ = some (.bool false)) ∧ (w'.cell? ⟨w.heap.size, 0, none⟩ = some (.int .i64 ((m : Int) - 1)) ∧ w'.cell? ⟨w.heap.size, 1, none⟩ = some (.slice (some ⟨ga, 0, none⟩) (m * m) ca)) ∧ w'.cell? ⟨w.heap.size + 1, 0, none⟩ = some (.int .i64 ((m : Int) - 1)) ∧ w'.cell? ⟨w.heap.size + 1, 1, none⟩ = some (.slice (some ⟨gb, 0, none⟩) (m * m) cb)) (by kernel_rfl) (HS.out _ Y0.out) (fun hH0 => ?_)
                    refine wpAnyH_take (i := 0) (oi := ⟨some 76, _, _, _, _, _⟩) (v := ?_) rfl (by kernel_rfl) (by kernel_rfl) (by kernel_rfl) (fun _ _ _ h => h) (Or.inl ⟨by rfl, ?_⟩) hH0 ?_
                    rotate_left
                    · intro w hSw
                      try dsimp only at hSw
                      go_simp
                      try with_reducible rfl
                    try simp only [Act.put, List.setIfInBounds_toArray, List.set_cons_zero, List.set_cons_succ]
                    refine wpAnyH_take (i := 1) (oi := ⟨some 77, _, _, _, _, _⟩) (v := ?_) rfl (by kernel_rfl) (by kernel_rfl) (by kernel_rfl) (fun _ _ _ h => h) (Or.inl ⟨by rfl, ?_⟩) hH0 ?_
                    rotate_left
                    · intro w hSw
                      try dsimp only at hSw
                      go_simp
                      try with_reducible rfl
                    try simp only [Act.put, List.setIfInBounds_toArray, List.set_cons_zero, List.set_cons_succ]
                    refine wpAnyH_take (i := 2) (oi := ⟨some 78, _, _, _, _, _⟩) (v := ?_) rfl (by kernel_rfl) (by kernel_rfl) (by kernel_rfl) (fun _ _ _ h => h) (Or.inl ⟨by rfl, ?_⟩) hH0 ?_
                    rotate_left
                    · intro w hSw
                      try dsimp only at hSw
                      go_simp
                      try with_reducible rfl
                    try simp only [Act.put, List.setIfInBounds_toArray, List.set_cons_zero, List.set_cons_succ]
                    refine wpAnyH_take (i := 3) (oi := ⟨some 79, _, _, _, _, _⟩) (v := ?_) rfl (by kernel_rfl) (by kernel_rfl) (by kernel_rfl) (fun _ _ _ h => h) (Or.inl ⟨by rfl, ?_⟩) hH0 ?_
                    rotate_left
                    · intro w hSw
                      try dsimp only at hSw
                      go_simp
                      try with_reducible rfl
                    try simp only [Act.put, List.setIfInBounds_toArray, List.set_cons_zero, List.set_cons_succ]
                    refine wpAnyH_take (i := 4) (oi := ⟨some 80, _, _, _, _, _⟩) (v := ?_) rfl (by kernel_rfl) (by kernel_rfl) (by kernel_rfl) (fun _ _ _ h => h) (Or.inl ⟨by rfl, ?_⟩) hH0 ?_
                    rotate_left
                    · intro w hSw
                      try dsimp only at hSw
                      go_simp
                      try with_reducible rfl
                    try simp only [Act.put, List.setIfInBounds_toArray, List.set_cons_zero, List.set_cons_succ]
                    refine wpAnyH_take (i := 5) (oi := ⟨some 81, _, _, _, _, _⟩) (v := ?_) rfl (by kernel_rfl) (by kernel_rfl) (by kernel_rfl) (fun _ _ _ h => h) (Or.inl ⟨by rfl, ?_⟩) hH0 ?_
                    rotate_left
                    · intro w hSw
                      try dsimp only at hSw
                      go_simp
                      try with_reducible rfl
                    try simp only [Act.put, List.setIfInBounds_toArray, List.set_cons_zero, List.set_cons_succ]
                    refine wpAnyH_take (i := 6) (oi := ⟨some 82, _, _, _, _, _⟩) (v := ?_) rfl (by kernel_rfl) (by kernel_rfl) (by kernel_rfl) (fun _ _ _ h => h) (Or.inl ⟨by rfl, ?_⟩) hH0 ?_
                    rotate_left
                    · intro w hSw
                      try dsimp only at hSw
                      go_simp
                      try with_reducible rfl
                    try simp only [Act.put, List.setIfInBounds_toArray, List.set_cons_zero, List.set_cons_succ]
                    refine wpAnyH_take (i := 7) (oi := ⟨some 83, _, _, _, _, _⟩) (v := ?_) rfl (by kernel_rfl) (by kernel_rfl) (by kernel_rfl) (fun _ _ _ h => h) (Or.inl ⟨by rfl, ?_⟩) hH0 ?_
                    rotate_left
                    · intro w hSw
                      try dsimp only at hSw
                      go_simp
                      try with_reducible rfl
                    try simp only [Act.put, List.setIfInBounds_toArray, List.set_cons_zero, List.set_cons_succ]
                    refine wpAnyH_take (i := 8) (oi := ⟨some 84, _, _, _, _, _⟩) (v := ?_) rfl (by kernel_rfl) (by kernel_rfl) (by kernel_rfl) (fun _ _ _ h => h) (Or.inl ⟨by rfl, ?_⟩) hH0 ?_
                    rotate_left
                    · intro w hSw
                      try dsimp only at hSw
                      go_simp
                      try with_reducible rfl
                    try simp only [Act.put, List.setIfInBounds_toArray, List.set_cons_zero, List.set_cons_succ]
                    refine wpAnyH_take (i := 9) (oi := ⟨some 85, _, _, _, _, _⟩) (v := ?_) rfl (by kernel_rfl) (by kernel_rfl) (by kernel_rfl) (fun _ _ _ h => h) (Or.inl ⟨by rfl, ?_⟩) hH0 ?_
                    rotate_left
                    · intro w hSw
                      try dsimp only at hSw
                      go_simp
                      try with_reducible rfl
                    try simp only [Act.put, List.setIfInBounds_toArray, List.set_cons_zero, List.set_cons_succ]
                    refine wpAnyH_take (i := 10) (oi := ⟨some 86, _, _, _, _, _⟩) (v := ?_) rfl (by kernel_rfl) (by kernel_rfl) (by kernel_rfl) (fun _ _ _ h => h) (Or.inl ⟨by rfl, ?_⟩) hH0 ?_
                    rotate_left
                    · intro w hSw
                      try dsimp only at hSw
                      go_simp
                      try with_reducible rfl
                    try simp only [Act.put, List.setIfInBounds_toArray, List.set_cons_zero, List.set_cons_succ]
                    refine wpAnyH_take (i := 11) (oi := ⟨some 87, _, _, _, _, _⟩) (v := ?_) rfl (by kernel_rfl) (by kernel_rfl) (by kernel_rfl) (fun _ _ _ h => h) (Or.inl ⟨by rfl, ?_⟩) hH0 ?_
                    rotate_left
                    · intro w hSw
                      try dsimp only at hSw
                      go_simp
                      try with_reducible rfl
                    try simp only [Act.put, List.setIfInBounds_toArray, List.set_cons_zero, List.set_cons_succ]
                    refine wpAnyH_take (i := 12) (oi := ⟨some 88, _, _, _, _, _⟩) (v := ?_) rfl (by kernel_rfl) (by kernel_rfl) (by kernel_rfl) (fun _ _ _ h => h) (Or.inl ⟨by rfl, ?_⟩) hH0 ?_
                    rotate_left
                    · intro w hSw
                      try dsimp only at hSw
                      go_simp
                      try with_reducible rfl
                    try simp only [Act.put, List.setIfInBounds_toArray, List.set_cons_zero, List.set_cons_succ]
                    refine wpAnyH_take (i := 13) (oi := ⟨some 89, _, _, _, _, _⟩) (v := ?_) rfl (by kernel_rfl) (by kernel_rfl) (by kernel_rfl) (fun _ _ _ h => h) (Or.inl ⟨by rfl, ?_⟩) hH0 ?_
                    rotate_left
                    · intro w hSw
                      try dsimp only at hSw
                      go_simp
                      try with_reducible rfl
                    try simp only [Act.put, List.setIfInBounds_toArray, List.set_cons_zero, List.set_cons_succ]
                    refine wpAnyH_take (i := 14) (oi := ⟨some 90, _, _, _, _, _⟩) (v := ?_) rfl (by kernel_rfl) (by kernel_rfl) (by kernel_rfl) (fun _ _ _ h => h) (Or.inl ⟨by rfl, ?_⟩) hH0 ?_
                    rotate_left
                    · intro w hSw
                      try dsimp only at hSw
                      go_simp
                      try with_reducible rfl
                    try simp only [Act.put, List.setIfInBounds_toArray, List.set_cons_zero, List.set_cons_succ]
                    refine wpAnyH_take (i := 15) (oi := ⟨some 91, _, _, _, _, _⟩) (v := ?_) rfl (by kernel_rfl) (by kernel_rfl) (by kernel_rfl) (fun _ _ _ h => h) (Or.inl ⟨by rfl, ?_⟩) hH0 ?_
                    rotate_left
                    · intro w hSw
                      try dsimp only at hSw
                      go_simp
                      try with_reducible rfl
                    try simp only [Act.put, List.setIfInBounds_toArray, List.set_cons_zero, List.set_cons_succ]
                    refine wpAnyH_take (i := 17) (oi := ⟨some 93, _, _, _, _, _⟩) (v := ?_) rfl (by kernel_rfl) (by kernel_rfl) (by kernel_rfl) (fun _ _ _ h => h) (Or.inl ⟨by rfl, ?_⟩) hH0 ?_
                    rotate_left
                    · intro w hSw
                      try dsimp only at hSw
                      go_simp
                      try with_reducible rfl
                    try simp only [Act.put, List.setIfInBounds_toArray, List.set_cons_zero, List.set_cons_succ]
                    refine wpAnyH_take (i := 18) (oi := ⟨some 94, _, _, _, _, _⟩) (v := ?_) rfl (by kernel_rfl) (by kernel_rfl) (by kernel_rfl) (fun _ _ _ h => h) (Or.inl ⟨by rfl, ?_⟩) hH0 ?_
                    rotate_left
                    · intro w hSw
                      try dsimp only at hSw
                      go_simp
                      try with_reducible rfl
                    try simp only [Act.put, List.setIfInBounds_toArray, List.set_cons_zero, List.set_cons_succ]
                    refine wpAnyH_take (i := 19) (oi := ⟨some 95, _, _, _, _, _⟩) (v := ?_) rfl (by kernel_rfl) (by kernel_rfl) (by kernel_rfl) (fun _ _ _ h => h) (Or.inl ⟨by rfl, ?_⟩) hH0 ?_
                    rotate_left
                    · intro w hSw
                      try dsimp only at hSw
                      go_simp
                      try with_reducible rfl
                    try simp only [Act.put, List.setIfInBounds_toArray, List.set_cons_zero, List.set_cons_succ]
                    refine wpAnyH_ready (rs := [16]) (by kernel_rfl) (by simp) ?_
                    refine AllReadyH.cons (o := ⟨some 92, _, _, _, _, _⟩) rfl (fun K hK => ?_) AllReadyH.nil
                    go_simp
                    refine (HGb'.out _ Y0.out.dw.low).mono ?_
                    rintro e w6 ⟨rfl, hb6⟩
                    have Y1 := Lib.hid (Y0.out.below hb6); clear hb6
                    go_wp2_with fail
                    refine hK.out _ _ (HS.out _ Y1.out) (fun hH1 => ?_)
                    clear hK K hH0
                    try simp only [Act.put, List.setIfInBounds_toArray, List.set_cons_zero, List.set_cons_succ]
                    refine wpAnyH_ready (rs := [20]) (by kernel_rfl) (by simp) ?_
                    refine AllReadyH.cons (o := ⟨some 96, _, _, _, _, _⟩) rfl (fun K hK => ?_) AllReadyH.nil
                    go_simp
                    refine (HGa'.out _ Y1.out.dw.low).mono ?_
                    rintro e w7 ⟨rfl, hb7⟩
                    have Y2 := Lib.hid (Y1.out.below hb7); clear hb7
                    go_wp2_with fail
                    refine hK.out _ _ (HS.out _ Y2.out) (fun hH2 => ?_)
                    clear hK K hH1
                    try simp only [Act.put, List.setIfInBounds_toArray, List.set_cons_zero, List.set_cons_succ]
                    refine wpAnyH_take (i := 21) (oi := ⟨some 97, _, _, _, _, _⟩) (v := ?_) rfl (by kernel_rfl) (by kernel_rfl) (by kernel_rfl) (fun _ _ _ h => h) (Or.inl ⟨by rfl, ?_⟩) hH2 ?_
                    rotate_left
                    · intro w hSw
                      try dsimp only at hSw
                      go_simp
                      try with_reducible rfl
                    try simp only [Act.put, List.setIfInBounds_toArray, List.set_cons_zero, List.set_cons_succ]
                    refine wpAnyH_take (i := 22) (oi := ⟨some 98, _, _, _, _, _⟩) (v := ?_) rfl (by kernel_rfl) (by kernel_rfl) (by kernel_rfl) (fun _ _ _ h => h) (Or.inl ⟨by rfl, ?_⟩) hH2 ?_
                    rotate_left
                    · intro w hSw
                      try dsimp only at hSw
                      go_simp
                      try with_reducible rfl
                    try simp only [Act.put, List.setIfInBounds_toArray, List.set_cons_zero, List.set_cons_succ]
                    refine wpAnyH_done (by kernel_rfl) ?_ _
                    go_wp2_with fail
                    have hjj := HJ.out
                    go_roundg (g2 - 1)
                    case measure => omega
                    case rel => exact ⟨q + 1, j + 1, by omega, by omega, by omega, by simp, Y2.out.congr fun k _ => HTn.out rfl k⟩
                · rw [qi, qj] at HS
                  rw [qi, qj] at HTn
                  refine wp_region_held_drew (S := fun w' => (w'.cell? ⟨gf, i, none⟩ = some (.bool false) ∧ w'.cell? ⟨gf, j, none⟩ = some (.bool true)) ∧ (w'.cell? ⟨w.heap.size, 0, none⟩ = some (.int .i64 ((m : Int) - 1)) ∧ w'.cell? ⟨w.heap.size, 1, none⟩ = some (.slice (some ⟨ga, 0, none⟩) (m * m) ca)) ∧ w'.cell? ⟨w.heap.size + 1, 0, none⟩ = some (.int .i64 ((m : Int) - 1)) ∧ w'.cell? ⟨w.heap.size + 1, 1, none⟩ = some (.slice (some ⟨gb, 0, none⟩) (m * m) cb)) (by kernel_rfl) (HS.out _ Y0.out) (fun hH0 => ?_)
                  refine wpAnyH_take (i := 0) (oi := ⟨some 76, _, _, _, _, _⟩) (v := ?_) rfl (by kernel_rfl) (by kernel_rfl) (by kernel_rfl) (fun _ _ _ h => h) (Or.inl ⟨by rfl, ?_⟩) hH0 ?_
                  rotate_left
                  · intro w hSw
                    try dsimp only at hSw
                    go_simp
                    try with_reducible rfl
                  try simp only [Act.put, List.setIfInBounds_toArray, List.set_cons_zero, List.set_cons_succ]
                  refine wpAnyH_take (i := 1) (oi := ⟨some 77, _, _, _, _, _⟩) (v := ?_) rfl (by kernel_rfl) (by kernel_rfl) (by kernel_rfl) (fun _ _ _ h => h) (Or.inl ⟨by rfl, ?_⟩) hH0 ?_
                  rotate_left
                  · intro w hSw
                    try dsimp only at hSw
                    go_simp
                    try with_reducible rfl
                  try simp only [Act.put, List.setIfInBounds_toArray, List.set_cons_zero, List.set_cons_succ]
                  refine wpAnyH_take (i := 2) (oi := ⟨some 78, _, _, _, _, _⟩) (v := ?_) rfl (by kernel_rfl) (by kernel_rfl) (by kernel_rfl) (fun _ _ _ h => h) (Or.inl ⟨by rfl, ?_⟩) hH0 ?_
                  rotate_left
                  · intro w hSw
                    try dsimp only at hSw
                    go_simp
                    try with_reducible rfl
                  try simp only [Act.put, List.setIfInBounds_toArray, List.set_cons_zero, List.set_cons_succ]
                  refine wpAnyH_take (i := 3) (oi := ⟨some 79, _, _, _, _, _⟩) (v := ?_) rfl (by kernel_rfl) (by kernel_rfl) (by kernel_rfl) (fun _ _ _ h => h) (Or.inl ⟨by rfl, ?_⟩) hH0 ?_
                  rotate_left
                  · intro w hSw
                    try dsimp only at hSw
                    go_simp
                    try with_reducible rfl
                  try simp only [Act.put, List.setIfInBounds_toArray, List.set_cons_zero, List.set_cons_succ]
                  refine wpAnyH_take (i := 4) (oi := ⟨some 80, _, _, _, _, _⟩) (v := ?_) rfl (by kernel_rfl) (by kernel_rfl) (by kernel_rfl) (fun _ _ _ h => h) (Or.inl ⟨by rfl, ?_⟩) hH0 ?_
                  rotate_left
                  · intro w hSw
                    try dsimp only at hSw
                    go_simp
                    try with_reducible rfl
                  try simp only [Act.put, List.setIfInBounds_toArray, List.set_cons_zero, List.set_cons_succ]
                  refine wpAnyH_take (i := 5) (oi := ⟨some 81, _, _, _, _, _⟩) (v := ?_) rfl (by kernel_rfl) (by kernel_rfl) (by kernel_rfl) (fun _ _ _ h => h) (Or.inl ⟨by rfl, ?_⟩) hH0 ?_
                  rotate_left
                  · intro w hSw
                    try dsimp only at hSw
                    go_simp
                    try with_reducible rfl
                  try simp only [Act.put, List.setIfInBounds_toArray, List.set_cons_zero, List.set_cons_succ]
                  refine wpAnyH_take (i := 6) (oi := ⟨some 82, _, _, _, _, _⟩) (v := ?_) rfl (by kernel_rfl) (by kernel_rfl) (by kernel_rfl) (fun _ _ _ h => h) (Or.inl ⟨by rfl, ?_⟩) hH0 ?_
                  rotate_left
                  · intro w hSw
                    try dsimp only at hSw
                    go_simp
                    try with_reducible rfl
                  try simp only [Act.put, List.setIfInBounds_toArray, List.set_cons_zero, List.set_cons_succ]
                  refine wpAnyH_take (i := 7) (oi := ⟨some 83, _, _, _, _, _⟩) (v := ?_) rfl (by kernel_rfl) (by kernel_rfl) (by kernel_rfl) (fun _ _ _ h => h) (Or.inl ⟨by rfl, ?_⟩) hH0 ?_
                  rotate_left
                  · intro w hSw
                    try dsimp only at hSw
                    go_simp
                    try with_reducible rfl
                  try simp only [Act.put, List.setIfInBounds_toArray, List.set_cons_zero, List.set_cons_succ]
                  refine wpAnyH_take (i := 8) (oi := ⟨some 84, _, _, _, _, _⟩) (v := ?_) rfl (by kernel_rfl) (by kernel_rfl) (by kernel_rfl) (fun _ _ _ h => h) (Or.inl ⟨by rfl, ?_⟩) hH0 ?_
                  rotate_left
                  · intro w hSw
                    try dsimp only at hSw
                    go_simp
                    try with_reducible rfl
                  try simp only [Act.put, List.setIfInBounds_toArray, List.set_cons_zero, List.set_cons_succ]
                  refine wpAnyH_take (i := 9) (oi := ⟨some 85, _, _, _, _, _⟩) (v := ?_) rfl (by kernel_rfl) (by kernel_rfl) (by kernel_rfl) (fun _ _ _ h => h) (Or.inl ⟨by rfl, ?_⟩) hH0 ?_
                  rotate_left
                  · intro w hSw
                    try dsimp only at hSw
                    go_simp
                    try with_reducible rfl
                  try simp only [Act.put, List.setIfInBounds_toArray, List.set_cons_zero, List.set_cons_succ]
                  refine wpAnyH_take (i := 10) (oi := ⟨some 86, _, _, _, _, _⟩) (v := ?_) rfl (by kernel_rfl) (by kernel_rfl) (by kernel_rfl) (fun _ _ _ h => h) (Or.inl ⟨by rfl, ?_⟩) hH0 ?_
                  rotate_left
                  · intro w hSw
                    try dsimp only at hSw
                    go_simp
                    try with_reducible rfl
                  try simp only [Act.put, List.setIfInBounds_toArray, List.set_cons_zero, List.set_cons_succ]
                  refine wpAnyH_take (i := 11) (oi := ⟨some 87, _, _, _, _, _⟩) (v := ?_) rfl (by kernel_rfl) (by kernel_rfl) (by kernel_rfl) (fun _ _ _ h => h) (Or.inl ⟨by rfl, ?_⟩) hH0 ?_
                  rotate_left
                  · intro w hSw
                    try dsimp only at hSw
                    go_simp
                    try with_reducible rfl
                  try simp only [Act.put, List.setIfInBounds_toArray, List.set_cons_zero, List.set_cons_succ]
                  refine wpAnyH_take (i := 12) (oi := ⟨some 88, _, _, _, _, _⟩) (v := ?_) rfl (by kernel_rfl) (by kernel_rfl) (by kernel_rfl) (fun _ _ _ h => h) (Or.inl ⟨by rfl, ?_⟩) hH0 ?_
                  rotate_left
                  · intro w hSw
                    try dsimp only at hSw
                    go_simp
                    try with_reducible rfl
                  try simp only [Act.put, List.setIfInBounds_toArray, List.set_cons_zero, List.set_cons_succ]
                  refine wpAnyH_take (i := 13) (oi := ⟨some 89, _, _, _, _, _⟩) (v := undef) rfl (by kernel_rfl) (by kernel_rfl) (by kernel_rfl) (fun _ _ _ h => h) (Or.inr ⟨by rfl, rfl⟩) hH0 ?_
                  try simp only [Act.put, List.setIfInBounds_toArray, List.set_cons_zero, List.set_cons_succ]
                  refine wpAnyH_take (i := 14) (oi := ⟨some 90, _, _, _, _, _⟩) (v := undef) rfl (by kernel_rfl) (by kernel_rfl) (by kernel_rfl) (fun _ _ _ h => h) (Or.inr ⟨by rfl, rfl⟩) hH0 ?_
                  try simp only [Act.put, List.setIfInBounds_toArray, List.set_cons_zero, List.set_cons_succ]
                  refine wpAnyH_take (i := 15) (oi := ⟨some 91, _, _, _, _, _⟩) (v := undef) rfl (by kernel_rfl) (by kernel_rfl) (by kernel_rfl) (fun _ _ _ h => h) (Or.inr ⟨by rfl, rfl⟩) hH0 ?_
                  try simp only [Act.put, List.setIfInBounds_toArray, List.set_cons_zero, List.set_cons_succ]
                  refine wpAnyH_take (i := 16) (oi := ⟨some 92, _, _, _, _, _⟩) (v := undef) rfl (by kernel_rfl) (by kernel_rfl) (by kernel_rfl) (fun _ _ _ h => h) (Or.inr ⟨by rfl, rfl⟩) hH0 ?_
                  try simp only [Act.put, List.setIfInBounds_toArray, List.set_cons_zero, List.set_cons_succ]
                  refine wpAnyH_take (i := 17) (oi := ⟨some 93, _, _, _, _, _⟩) (v := undef) rfl (by kernel_rfl) (by kernel_rfl) (by kernel_rfl) (fun _ _ _ h => h) (Or.inr ⟨by rfl, rfl⟩) hH0 ?_
                  try simp only [Act.put, List.setIfInBounds_toArray, List.set_cons_zero, List.set_cons_succ]
                  refine wpAnyH_take (i := 18) (oi := ⟨some 94, _, _, _, _, _⟩) (v := undef) rfl (by kernel_rfl) (by kernel_rfl) (by kernel_rfl) (fun _ _ _ h => h) (Or.inr ⟨by rfl, rfl⟩) hH0 ?_
                  try simp only [Act.put, List.setIfInBounds_toArray, List.set_cons_zero, List.set_cons_succ]
                  refine wpAnyH_take (i := 19) (oi := ⟨some 95, _, _, _, _, _⟩) (v := undef) rfl (by kernel_rfl) (by kernel_rfl) (by kernel_rfl) (fun _ _ _ h => h) (Or.inr ⟨by rfl, rfl⟩) hH0 ?_
                  try simp only [Act.put, List.setIfInBounds_toArray, List.set_cons_zero, List.set_cons_succ]
                  refine wpAnyH_take (i := 20) (oi := ⟨some 96, _, _, _, _, _⟩) (v := undef) rfl (by kernel_rfl) (by kernel_rfl) (by kernel_rfl) (fun _ _ _ h => h) (Or.inr ⟨by rfl, rfl⟩) hH0 ?_
                  try simp only [Act.put, List.setIfInBounds_toArray, List.set_cons_zero, List.set_cons_succ]
                  refine wpAnyH_take (i := 21) (oi := ⟨some 97, _, _, _, _, _⟩) (v := undef) rfl (by kernel_rfl) (by kernel_rfl) (by kernel_rfl) (fun _ _ _ h => h) (Or.inr ⟨by rfl, rfl⟩) hH0 ?_
                  try simp only [Act.put, List.setIfInBounds_toArray, List.set_cons_zero, List.set_cons_succ]
                  refine wpAnyH_take (i := 22) (oi := ⟨some 98, _, _, _, _, _⟩) (v := ?_) rfl (by kernel_rfl) (by kernel_rfl) (by kernel_rfl) (fun _ _ _ h => h) (Or.inl ⟨by rfl, ?_⟩) hH0 ?_
                  rotate_left
                  · intro w hSw
                    try dsimp only at hSw
                    go_simp
                    try with_reducible rfl
                  try simp only [Act.put, List.setIfInBounds_toArray, List.set_cons_zero, List.set_cons_succ]
                  refine wpAnyH_done (by kernel_rfl) ?_ _
                  go_wp2_with fail
                  have hjj := HJ.out
                  go_roundg (g2 - 1)
                  case measure => omega
                  case rel => exact ⟨q + 1, j + 1, by omega, by omega, by omega, by simp, Y0.out.congr fun k _ => HTn.out rfl k⟩
              · rw [qi] at HS HTn
                refine wp_region_held_drew (S := fun w' => (w'.cell? ⟨gf, i, none⟩ = some (.bool true) ∧ w'.cell? ⟨gf, j, none⟩ = some (.bool (farB f n C B j))) ∧ (w'.cell? ⟨w.heap.size, 0, none⟩ = some (.int .i64 ((m : Int) - 1)) ∧ w'.cell? ⟨w.heap.size, 1, none⟩ = some (.slice (some ⟨ga, 0, none⟩) (m * m) ca)) ∧ w'.cell? ⟨w.heap.size + 1, 0, none⟩ = some (.int .i64 ((m : Int) - 1)) ∧ w'.cell? ⟨w.heap.size + 1, 1, none⟩ = some (.slice (some ⟨gb, 0, none⟩) (m * m) cb)) (by kernel_rfl) (HS.out _ Y0.out) (fun hH0 => ?_)
                refine wpAnyH_take (i := 0) (oi := ⟨some 76, _, _, _, _, _⟩) (v := ?_) rfl (by kernel_rfl) (by kernel_rfl) (by kernel_rfl) (fun _ _ _ h => h) (Or.inl ⟨by rfl, ?_⟩) hH0 ?_
                rotate_left
                · intro w hSw
                  try dsimp only at hSw
                  go_simp
                  try with_reducible rfl
                try simp only [Act.put, List.setIfInBounds_toArray, List.set_cons_zero, List.set_cons_succ]
                refine wpAnyH_take (i := 1) (oi := ⟨some 77, _, _, _, _, _⟩) (v := ?_) rfl (by kernel_rfl) (by kernel_rfl) (by kernel_rfl) (fun _ _ _ h => h) (Or.inl ⟨by rfl, ?_⟩) hH0 ?_
                rotate_left
                · intro w hSw
                  try dsimp only at hSw
                  go_simp
                  try with_reducible rfl
                try simp only [Act.put, List.setIfInBounds_toArray, List.set_cons_zero, List.set_cons_succ]
                refine wpAnyH_take (i := 2) (oi := ⟨some 78, _, _, _, _, _⟩) (v := ?_) rfl (by kernel_rfl) (by kernel_rfl) (by kernel_rfl) (fun _ _ _ h => h) (Or.inl ⟨by rfl, ?_⟩) hH0 ?_
                rotate_left
                · intro w hSw
                  try dsimp only at hSw
                  go_simp
                  try with_reducible rfl
                try simp only [Act.put, List.setIfInBounds_toArray, List.set_cons_zero, List.set_cons_succ]
                refine wpAnyH_take (i := 3) (oi := ⟨some 79, _, _, _, _, _⟩) (v := ?_) rfl (by kernel_rfl) (by kernel_rfl) (by kernel_rfl) (fun _ _ _ h => h) (Or.inl ⟨by rfl, ?_⟩) hH0 ?_
                rotate_left
                · intro w hSw
                  try dsimp only at hSw
                  go_simp
                  try with_reducible rfl
                try simp only [Act.put, List.setIfInBounds_toArray, List.set_cons_zero, List.set_cons_succ]
                refine wpAnyH_take (i := 4) (oi := ⟨some 80, _, _, _, _, _⟩) (v := ?_) rfl (by kernel_rfl) (by kernel_rfl) (by kernel_rfl) (fun _ _ _ h => h) (Or.inl ⟨by rfl, ?_⟩) hH0 ?_
                rotate_left
                · intro w hSw
                  try dsimp only at hSw
                  go_simp
                  try with_reducible rfl
                try simp only [Act.put, List.setIfInBounds_toArray, List.set_cons_zero, List.set_cons_succ]
                refine wpAnyH_take (i := 5) (oi := ⟨some 81, _, _, _, _, _⟩) (v := ?_) rfl (by kernel_rfl) (by kernel_rfl) (by kernel_rfl) (fun _ _ _ h => h) (Or.inl ⟨by rfl, ?_⟩) hH0 ?_
                rotate_left
                · intro w hSw
                  try dsimp only at hSw
                  go_simp
                  try with_reducible rfl
                try simp only [Act.put, List.setIfInBounds_toArray, List.set_cons_zero, List.set_cons_succ]
                refine wpAnyH_take (i := 6) (oi := ⟨some 82, _, _, _, _, _⟩) (v := undef) rfl (by kernel_rfl) (by kernel_rfl) (by kernel_rfl) (fun _ _ _ h => h) (Or.inr ⟨by rfl, rfl⟩) hH0 ?_
                try simp only [Act.put, List.setIfInBounds_toArray, List.set_cons_zero, List.set_cons_succ]
                refine wpAnyH_take (i := 7) (oi := ⟨some 83, _, _, _, _, _⟩) (v := undef) rfl (by kernel_rfl) (by kernel_rfl) (by kernel_rfl) (fun _ _ _ h => h) (Or.inr ⟨by rfl, rfl⟩) hH0 ?_
                try simp only [Act.put, List.setIfInBounds_toArray, List.set_cons_zero, List.set_cons_succ]
                refine wpAnyH_take (i := 8) (oi := ⟨some 84, _, _, _, _, _⟩) (v := undef) rfl (by kernel_rfl) (by kernel_rfl) (by kernel_rfl) (fun _ _ _ h => h) (Or.inr ⟨by rfl, rfl⟩) hH0 ?_
                try simp only [Act.put, List.setIfInBounds_toArray, List.set_cons_zero, List.set_cons_succ]
                refine wpAnyH_take (i := 9) (oi := ⟨some 85, _, _, _, _, _⟩) (v := undef) rfl (by kernel_rfl) (by kernel_rfl) (by kernel_rfl) (fun _ _ _ h => h) (Or.inr ⟨by rfl, rfl⟩) hH0 ?_
                try simp only [Act.put, List.setIfInBounds_toArray, List.set_cons_zero, List.set_cons_succ]
                refine wpAnyH_take (i := 10) (oi := ⟨some 86, _, _, _, _, _⟩) (v := undef) rfl (by kernel_rfl) (by kernel_rfl) (by kernel_rfl) (fun _ _ _ h => h) (Or.inr ⟨by rfl, rfl⟩) hH0 ?_
                try simp only [Act.put, List.setIfInBounds_toArray, List.set_cons_zero, List.set_cons_succ]
                refine wpAnyH_take (i := 11) (oi := ⟨some 87, _, _, _, _, _⟩) (v := ?_) rfl (by kernel_rfl) (by kernel_rfl) (by kernel_rfl) (fun _ _ _ h => h) (Or.inl ⟨by rfl, ?_⟩) hH0 ?_
                rotate_left
                · intro w hSw
                  try dsimp only at hSw
                  go_simp
                  try with_reducible rfl
                try simp only [Act.put, List.setIfInBounds_toArray, List.set_cons_zero, List.set_cons_succ]
                refine wpAnyH_take (i := 12) (oi := ⟨some 88, _, _, _, _, _⟩) (v := ?_) rfl (by kernel_rfl) (by kernel_rfl) (by kernel_rfl) (fun _ _ _ h => h) (Or.inl ⟨by rfl, ?_⟩) hH0 ?_
                rotate_left
                · intro w hSw
                  try dsimp only at hSw
                  go_simp
                  try with_reducible rfl
                try simp only [Act.put, List.setIfInBounds_toArray, List.set_cons_zero, List.set_cons_succ]
                refine wpAnyH_take (i := 13) (oi := ⟨some 89, _, _, _, _, _⟩) (v := undef) rfl (by kernel_rfl) (by kernel_rfl) (by kernel_rfl) (fun _ _ _ h => h) (Or.inr ⟨by rfl, rfl⟩) hH0 ?_
                try simp only [Act.put, List.setIfInBounds_toArray, List.set_cons_zero, List.set_cons_succ]
                refine wpAnyH_take (i := 14) (oi := ⟨some 90, _, _, _, _, _⟩) (v := undef) rfl (by kernel_rfl) (by kernel_rfl) (by kernel_rfl) (fun _ _ _ h => h) (Or.inr ⟨by rfl, rfl⟩) hH0 ?_
                try simp only [Act.put, List.setIfInBounds_toArray, List.set_cons_zero, List.set_cons_succ]
                refine wpAnyH_take (i := 15) (oi := ⟨some 91, _, _, _, _, _⟩) (v := undef) rfl (by kernel_rfl) (by kernel_rfl) (by kernel_rfl) (fun _ _ _ h => h) (Or.inr ⟨by rfl, rfl⟩) hH0 ?_
                try simp only [Act.put, List.setIfInBounds_toArray, List.set_cons_zero, List.set_cons_succ]
                refine wpAnyH_take (i := 16) (oi := ⟨some 92, _, _, _, _, _⟩) (v := undef) rfl (by kernel_rfl) (by kernel_rfl) (by kernel_rfl) (fun _ _ _ h => h) (Or.inr ⟨by rfl, rfl⟩) hH0 ?_
                try simp only [Act.put, List.setIfInBounds_toArray, List.set_cons_zero, List.set_cons_succ]
                refine wpAnyH_take (i := 17) (oi := ⟨some 93, _, _, _, _, _⟩) (v := undef) rfl (by kernel_rfl) (by kernel_rfl) (by kernel_rfl) (fun _ _ _ h => h) (Or.inr ⟨by rfl, rfl⟩) hH0 ?_
                try simp only [Act.put, List.setIfInBounds_toArray, List.set_cons_zero, List.set_cons_succ]
                refine wpAnyH_take (i := 18) (oi := ⟨some 94, _, _, _, _, _⟩) (v := undef) rfl (by kernel_rfl) (by kernel_rfl) (by kernel_rfl) (fun _ _ _ h => h) (Or.inr ⟨by rfl, rfl⟩) hH0 ?_
                try simp only [Act.put, List.setIfInBounds_toArray, List.set_cons_zero, List.set_cons_succ]
                refine wpAnyH_take (i := 19) (oi := ⟨some 95, _, _, _, _, _⟩) (v := undef) rfl (by kernel_rfl) (by kernel_rfl) (by kernel_rfl) (fun _ _ _ h => h) (Or.inr ⟨by rfl, rfl⟩) hH0 ?_
                try simp only [Act.put, List.setIfInBounds_toArray, List.set_cons_zero, List.set_cons_succ]
                refine wpAnyH_take (i := 20) (oi := ⟨some 96, _, _, _, _, _⟩) (v := undef) rfl (by kernel_rfl) (by kernel_rfl) (by kernel_rfl) (fun _ _ _ h => h) (Or.inr ⟨by rfl, rfl⟩) hH0 ?_
                try simp only [Act.put, List.setIfInBounds_toArray, List.set_cons_zero, List.set_cons_succ]
                refine wpAnyH_take (i := 21) (oi := ⟨some 97, _, _, _, _, _⟩) (v := undef) rfl (by kernel_rfl) (by kernel_rfl) (by kernel_rfl) (fun _ _ _ h => h) (Or.inr ⟨by rfl, rfl⟩) hH0 ?_
                try simp only [Act.put, List.setIfInBounds_toArray, List.set_cons_zero, List.set_cons_succ]
                refine wpAnyH_take (i := 22) (oi := ⟨some 98, _, _, _, _, _⟩) (v := ?_) rfl (by kernel_rfl) (by kernel_rfl) (by kernel_rfl) (fun _ _ _ h => h) (Or.inl ⟨by rfl, ?_⟩) hH0 ?_
                rotate_left
                · intro w hSw
                  try dsimp only at hSw
                  go_simp
                  try with_reducible rfl
                try simp only [Act.put, List.setIfInBounds_toArray, List.set_cons_zero, List.set_cons_succ]
                refine wpAnyH_done (by kernel_rfl) ?_ _
                go_wp2_with fail
                have hjj := HJ.out
                go_roundg (g2 - 1)
                case measure => omega
                case rel => exact ⟨q + 1, j + 1, by omega, by omega, by omega, by simp, Y0.out.congr fun k _ => HTn.out rfl k⟩
            · have d5 : decide ((j : Int) ≤ (m : Int) - 1) = false := decide_eq_false (by omega)
              have wi : IntKind.i64.wrap ((i : Int) + 1) = (i : Int) + 1 := IntWalk.i64_in _ (by have := H7.out; omega)
              have hq : q = u := by have := HJ.out; have := HU.out; omega
              have YN : Hid (DT w m ga ca gb cb bd gd cd (dSp f n C B u) gf cf (farB f n C B) gt ct (tAll f n C B u (p + 1)) wr) := Lib.hid (by have := Y.out; rw [hq] at this; exact this)
              clear hq
              go_wp2_with fail
              have hii := HI.out
              go_roundg (g1 - 1)
              case measure => omega
              case rel => exact ⟨p + 1, i + 1, by omega, by omega, by omega, by simp, YN.out⟩
        · have d4 : decide ((i : Int) ≤ (m : Int) - 1) = false := decide_eq_false (by omega)
          have hq : p = u := by have := HI.out; have := HU.out; omega
          have YN : Hid (DT w m ga ca gb cb bd gd cd (dSp f n C B u) gf cf (farB f n C B) gt ct (tAll f n C B u u) wr) := Lib.hid (by have := Y.out; rw [hq] at this; exact this)
          clear hq Y HI him
          obtain ⟨T, hT⟩ : ∃ T, tAll f n C B u u = T := ⟨_, rfl⟩
          rw [hT] at HBd YN ⊢
          have HTT := Lib.hid hT
          clear hT
          go_wp2_with fail
          clear a0 a1
          go_loopg [14] m (fun gk s wr => ∃ (p i gd cd : Nat), i = p + 1 ∧ i ≤ m ∧ p + gk = m ∧ s = .int .i64 (i : Int) ∧ DT w m ga ca gb cb bd gd cd (dAll T C (dSp f n C B u) u p) gf cf (farB f n C B) gt ct T wr)
          case atStart => exact ⟨0, 1, gd, cd, rfl, H0.out, by omega, rfl, YN.out⟩
          case round =>
            rename Nat => g1
            clear YN
            obtain ⟨p, i, gd, cd, hi', hi2, hi3, rfl, hD⟩ := hrel
            have HI := Lib.hid (And.intro hi' (And.intro hi2 hi3))
            have Y := Lib.hid hD
            clear hi' hi2 hi3 hD
            have a0 := Y.out.dw.za.cell0
            have a1 := Y.out.dw.za.lt
            by_cases him : i < m
            · have d4 : decide ((i : Int) ≤ (m : Int) - 1) = true := decide_eq_true (by omega)
              go_wp2_with fail
              clear a0 a1
              go_loopg [15] m (fun gk s wr => ∃ (q j gd cd : Nat), j = q + 1 ∧ j ≤ m ∧ q + gk = m ∧ s = .int .i64 (j : Int) ∧ DT w m ga ca gb cb bd gd cd (dRow T C (dAll T C (dSp f n C B u) u p) p q) gf cf (farB f n C B) gt ct T wr)
              case atStart => exact ⟨0, 1, gd, cd, rfl, H0.out, by omega, rfl, Y.out⟩
              case round =>
                rename Nat => g2
                clear Y
                obtain ⟨q, j, gd, cd, hj', hj2, hj3, rfl, hD⟩ := hrel
                have HJ := Lib.hid (And.intro hj' (And.intro hj2 hj3))
                have Y := Lib.hid hD
                clear hj' hj2 hj3 hD
                have a0 := Y.out.dw.za.cell0
                have a1 := Y.out.dw.za.lt
                by_cases hjm : j < m
                · have d5 : decide ((j : Int) ≤ (m : Int) - 1) = true := decide_eq_true (by omega)
                  have wj : IntKind.i64.wrap ((j : Int) + 1) = (j : Int) + 1 := IntWalk.i64_in _ (by have := H7.out; omega)
                  have hi' : (i : Int) < (m : Int) := by omega
                  have hj' : (j : Int) < (m : Int) := by omega
                  obtain ⟨t0, t1⟩ := Y.out.ts him hjm
                  have HDn : Hid ((!T i && !T j) = false → dRow T C (dAll T C (dSp f n C B u) u p) p q = dRow T C (dAll T C (dSp f n C B u) u p) p (q + 1)) := Lib.hid (by
                    rw [HI.out.1, HJ.out.1]
                    intro h
                    show _ = if _ then _ else _
                    rw [if_neg (by rw [h]; decide)])
                  have HDy : Hid ((!T i && !T j) = true → grd (dRow T C (dAll T C (dSp f n C B u) u p) p q) i j (C i j) = dRow T C (dAll T C (dSp f n C B u) u p) p (q + 1)) := Lib.hid (by
                    rw [HI.out.1, HJ.out.1]
                    intro h
                    show _ = if _ then _ else _
                    rw [if_pos h])
                  cases qi : T i
                  · cases qj : T j
                    · rw [qi] at t0
                      rw [qj] at t1
                      rw [qi, qj] at HDy
                      have HG : Hid (∀ W, Below w.heap.size w W → Calls Tryz.prog 50 #[zoneV ((m : Int) - 1) (some ⟨ga, 0, none⟩) (m * m) ca, .int .i64 (i : Int), .int .i64 (j : Int)] W (RetI W (C i j))) := Lib.hid (HGa.out i j him hjm)
                      have HWi : Hid (∀ W gd cd, DT w m ga ca gb cb bd gd cd (dRow T C (dAll T C (dSp f n C B u) u p) p q) gf cf (farB f n C B) gt ct T W → Calls Tryz.prog 49 #[zoneV ((m : Int) - 1) (some ⟨gd, 0, none⟩) (m * m) cd, .int .i64 (i : Int), .int .i64 (j : Int), .int .i64 (C i j)] W (RetRZ W m (dRow T C (dAll T C (dSp f n C B u) u p) p (q + 1)))) := Lib.hid fun W gd cd x => by
                        rw [← HDy.out rfl]
                        exact rwith_any H0.out H7.out him hjm x.dw.rowE
                      obtain ⟨y, hy⟩ : ∃ y, C i j = y := ⟨_, rfl⟩
                      rw [hy] at HG HWi
                      clear hy HDy HDn
                      have Y0 := Lib.hid (Y.out.below (Below.refl _ _).drew)
                      go_wp2_with fail
                      have x0 := Y0.out.dw.zo.cell0
                      have x1 := Y0.out.dw.zo.cell1
                      have x2 := Y0.out.dw.za.cell0
                      have x3 := Y0.out.dw.za.cell1
                      clear a0 a1 t0 t1
                      go_region_with (first
                        | (go_at_call 50; ((with_reducible refine (HG.out _ Y0.out.dw.low).mono ?_); rintro e w6 ⟨rfl, hb6⟩); have Y6 := Lib.hid (Y0.out.below hb6); have z0 := Y6.out.dw.zo.cell0; have z1 := Y6.out.dw.zo.cell1; clear hb6)
                        | (go_at_call 49; ((with_reducible refine (HWi.out _ _ _ Y6.out).mono ?_); rintro e w7 ⟨g7, c7, rfl, hr7, hb7⟩); have Y7 := Lib.hid (Y6.out.below hb7); have R7 := Lib.hid hr7; have b0 := Y7.out.dw.zo.frozen0; have b1 := Y7.out.dw.zo.frozen1; have b2 := Y7.out.dw.zo.lt; have b3 := Y7.out.dw.zo.cell0; have b4 := Y7.out.dw.zo.cell1; clear hb7 hr7))
                      all_goals go_wp2_with fail
                      all_goals
                        have hjj := HJ.out
                        go_roundg (g2 - 1)
                        case measure => omega
                        case rel => exact ⟨q + 1, j + 1, g7, c7, by omega, by omega, by omega, by simp, Y7.out.put R7.out (Y6.out.later R7.out (Nat.le_refl _)).1 (Y6.out.later R7.out (Nat.le_refl _)).2⟩
                    · rw [qi] at t0
                      rw [qj] at t1
                      rw [qi, qj] at HDn
                      have YN := Lib.hid (HDn.out rfl ▸ Y.out)
                      go_wp2_with fail
                      have hjj := HJ.out
                      go_roundg (g2 - 1)
                      case measure => omega
                      case rel => exact ⟨q + 1, j + 1, gd, cd, by omega, by omega, by omega, by simp, YN.out⟩
                  · rw [qi] at t0 HDn
                    have YN := Lib.hid (HDn.out rfl ▸ Y.out)
                    go_wp2_with fail
                    have hjj := HJ.out
                    go_roundg (g2 - 1)
                    case measure => omega
                    case rel => exact ⟨q + 1, j + 1, gd, cd, by omega, by omega, by omega, by simp, YN.out⟩
                · have d5 : decide ((j : Int) ≤ (m : Int) - 1) = false := decide_eq_false (by omega)
                  have wi : IntKind.i64.wrap ((i : Int) + 1) = (i : Int) + 1 := IntWalk.i64_in _ (by have := H7.out; omega)
                  have hq : q = u := by have := HJ.out; have := HU.out; omega
                  have YN : Hid (DT w m ga ca gb cb bd gd cd (dAll T C (dSp f n C B u) u (p + 1)) gf cf (farB f n C B) gt ct T wr) := Lib.hid (by have := Y.out; rw [hq] at this; exact this)
                  clear hq
                  go_wp2_with fail
                  have hii := HI.out
                  go_roundg (g1 - 1)
                  case measure => omega
                  case rel => exact ⟨p + 1, i + 1, gd, cd, by omega, by omega, by omega, by simp, YN.out⟩
            · have d4 : decide ((i : Int) ≤ (m : Int) - 1) = false := decide_eq_false (by omega)
              have hq : p = u := by have := HI.out; have := HU.out; omega
              have YN : Hid (DT w m ga ca gb cb bd gd cd (dAll T C (dSp f n C B u) u u) gf cf (farB f n C B) gt ct T wr) := Lib.hid (by have := Y.out; rw [hq] at this; exact this)
              clear hq Y
              have b0 := YN.out.dw.zo.cell0
              have b1 := YN.out.dw.zo.cell1
              have b2 := YN.out.dw.zo.lt
              go_wp2_with (go_at_call 35; ((with_reducible refine (rclose_rz H0.out H7.out HBd.out YN.out.dw.rowE).mono ?_); rintro e w6 ⟨A6, c6, rfl, hz6, hb6⟩); have Y6 := Lib.hid (YN.out.below hb6); have Z6 := Lib.hid hz6; have r0 := Y6.out.dw.zr.cell0; have r1 := Y6.out.dw.zr.cell1; have r2 := Y6.out.dw.zr.frozen0; have r3 := Y6.out.dw.zr.frozen1; have r4 := Y6.out.dw.zr.lt; clear hb6 hz6)
              obtain rfl := HTT.out
              have hp := res_put Y6.out.dw.zr Y6.out.dw.low (by omega) (.int .i64 ((m : Int) - 1)) (.slice A6 (rlen m (setR m (dAll (tAll f n C B u u) C (dSp f n C B u) u u))) c6)
              have hzz := zres_put Y6.out.dw.zr (Z6.out.lower YN.out.dw.low.size) (.int .i64 ((m : Int) - 1)) (.slice A6 (rlen m (setR m (dAll (tAll f n C B u u) C (dSp f n C B u) u u))) c6)
              have y0 := hp.1.cell0
              have y1 := hp.1.cell1
              exact bodyPost_ret (v := zoneV ((m : Int) - 1) A6 (rlen m (setR m (dAll (tAll f n C B u u) C (dSp f n C B u) u u))) c6) (by simp [results, Tryz.results13, go_sem, y0, y1]) rfl ⟨A6, c6, rfl, hzz, hp.2⟩
end
end Go.Proofs.YtimckaphmfidhaaGreatDoor
