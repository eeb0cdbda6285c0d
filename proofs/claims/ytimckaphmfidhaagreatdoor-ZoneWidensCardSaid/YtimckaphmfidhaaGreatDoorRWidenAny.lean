/- ZoneWidens: the contract of the document's Widen, of any two right zones of one N. -/
import Derived.Test.YtimckaphmfidhaaGreatDoorRWiden
import Derived.Test.YtimckaphmfidhaaGreatDoorGWide
namespace Go.Proofs.YtimckaphmfidhaaGreatDoor
open Go.RowKit
attribute [local go_sem ↓] Go.wp_at_zero Go.wp_at_succ
/-- What the document's Widen tells. -/
def rwO (m : Nat) (f : Nat → Int) (n : Nat) (Ra Rb : Option Mat) : Option Mat :=
  if leqO m m Rb Ra = true then Ra else match Ra, Rb with
    | some C, some B => setR m (dAll (tAll f n C B (m - 1) (m - 1)) C (dSp f n C B (m - 1)) (m - 1) (m - 1))
    | none, R => R
    | some C, none => some C
section
variable {w : World} {m n cap : Nat} {A Bz S : Option Addr} {ba bb ca cb : Nat} {f : Nat → Int} {Ra Rb : Option Mat}
set_option maxRecDepth 100000 in
set_option maxHeartbeats 6400000 in
/-- One of the two comes back. -/
theorem rwiden_one (h0 : 0 < m) (h7 : m ≤ 7) (ha : ZRes w ba m Ra (zoneV ((m : Int) - 1) A (rlen m Ra) ca)) (hb : ZRes w bb m Rb (zoneV ((m : Int) - 1) Bz (rlen m Rb) cb)) (hle : leqO m m Rb Ra = true) :
    Calls Tryz.prog 13 #[zoneV ((m : Int) - 1) A (rlen m Ra) ca, zoneV ((m : Int) - 1) Bz (rlen m Rb) cb, .slice S n cap] w (RetO w m Ra) := by
  have HLq : Hid (∀ W, Below w.heap.size w W → Calls Tryz.prog 45 #[zoneV ((m : Int) - 1) Bz (rlen m Rb) cb, zoneV ((m : Int) - 1) A (rlen m Ra) ca] W (ZRetBool true W)) := Lib.hid fun W hb1 => by
    have q := rleq_any h0 h7 (hb.below hb1) (ha.below hb1)
    rw [hle] at q
    exact q
  have HZ := Lib.hid ha
  obtain ⟨La, hLa⟩ : ∃ x, rlen m Ra = x := ⟨_, rfl⟩
  obtain ⟨Lb, hLb⟩ : ∃ x, rlen m Rb = x := ⟨_, rfl⟩
  rw [hLa, hLb] at HLq ⊢
  rw [hLa] at HZ
  have HLa := Lib.hid hLa
  obtain ⟨W3, hW3, k0, k1, k2, hb3, hs3⟩ := three_boxes_r w (.int .i64 ((m : Int) - 1)) (.slice A La ca) (.int .i64 ((m : Int) - 1)) (.slice Bz Lb cb) (.int .i64 0) (.slice none 0 0)
  have K3 := Lib.hid (And.intro hb3 (And.intro k0 k2))
  have x0 := k0.cell0
  have x1 := k0.cell1
  have x3 := k1.cell0
  have x4 := k1.cell1
  clear ha hb hle k0 k1 k2 hb3 hLa hLb
  go_enter Tryz.func13, Tryz.ntmps13
  go_wp2_with (go_at_call 45; ((with_reducible refine (HLq.out _ K3.out.1).mono ?_); rintro e w4 ⟨rfl, hb4⟩); have K4 := Lib.hid (And.intro (K3.out.1.trans (hb4.mono K3.out.1.size)) (And.intro (K3.out.2.1.below hb4) (K3.out.2.2.below hb4))); have x0 := K4.out.2.1.cell0; have x1 := K4.out.2.1.cell1; have r0 := K4.out.2.2.cell0; have r1 := K4.out.2.2.cell1; have r2 := K4.out.2.2.frozen0; have r3 := K4.out.2.2.frozen1; have r4 := K4.out.2.2.lt; clear hb4)
  have hp := res_put K4.out.2.2 K4.out.1 (by omega) (.int .i64 ((m : Int) - 1)) (.slice A La ca)
  have hzz := zres_put K4.out.2.2 (HZ.out.below K4.out.1) (.int .i64 ((m : Int) - 1)) (.slice A La ca)
  have y0 := hp.1.cell0
  have y1 := hp.1.cell1
  exact bodyPost_ret (v := zoneV ((m : Int) - 1) A La ca) (by simp [results, Tryz.results13, go_sem, y0, y1]) rfl ⟨A, ca, ba, by rw [HLa.out], by rw [HLa.out]; exact hzz, hp.2⟩
set_option maxRecDepth 100000 in
set_option maxHeartbeats 6400000 in
/-- The first is empty: the second. -/
theorem rwiden_two (h0 : 0 < m) (h7 : m ≤ 7) (ha : ZRes w ba m none (zoneV ((m : Int) - 1) A (rlen m none) ca)) (hb : ZRes w bb m Rb (zoneV ((m : Int) - 1) Bz (rlen m Rb) cb)) (hle : leqO m m Rb none = false) :
    Calls Tryz.prog 13 #[zoneV ((m : Int) - 1) A (rlen m none) ca, zoneV ((m : Int) - 1) Bz (rlen m Rb) cb, .slice S n cap] w (RetO w m Rb) := by
  have hLq : ∀ W, Below w.heap.size w W → Calls Tryz.prog 45 #[zoneV ((m : Int) - 1) Bz (rlen m Rb) cb, zoneV ((m : Int) - 1) A (rlen m none) ca] W (ZRetBool false W) := fun W hb1 => by
    have q := rleq_any h0 h7 (hb.below hb1) (ha.below hb1)
    rw [hle] at q
    exact q
  have HZ := Lib.hid hb
  obtain ⟨rfl, rfl⟩ := rn_of ha
  have e0 : rlen m (none : Option Mat) = 0 := rfl
  rw [e0] at hLq ⊢
  obtain ⟨Lb, hLb⟩ : ∃ x, rlen m Rb = x := ⟨_, rfl⟩
  rw [hLb] at hLq HZ ⊢
  have HLq := Lib.hid hLq
  have HLb := Lib.hid hLb
  obtain ⟨W3, hW3, k0, k1, k2, hb3, hs3⟩ := three_boxes_r w (.int .i64 ((m : Int) - 1)) (.slice none 0 0) (.int .i64 ((m : Int) - 1)) (.slice Bz Lb cb) (.int .i64 0) (.slice none 0 0)
  have K3 := Lib.hid (And.intro hb3 (And.intro k0 (And.intro k1 k2)))
  have x0 := k0.cell0
  have x1 := k0.cell1
  have x3 := k1.cell0
  have x4 := k1.cell1
  clear ha hb hle k0 k1 k2 hb3 hLb hLq e0
  go_enter Tryz.func13, Tryz.ntmps13
  go_wp2_with (go_at_call 45; ((with_reducible refine (HLq.out _ K3.out.1).mono ?_); rintro e w4 ⟨rfl, hb4⟩); have K4 := Lib.hid (And.intro (K3.out.1.trans (hb4.mono K3.out.1.size)) (And.intro (K3.out.2.1.below hb4) (And.intro (K3.out.2.2.1.below hb4) (K3.out.2.2.2.below hb4)))); have x0 := K4.out.2.1.cell0; have x1 := K4.out.2.1.cell1; have x3 := K4.out.2.2.1.cell0; have x4 := K4.out.2.2.1.cell1; have r0 := K4.out.2.2.2.cell0; have r1 := K4.out.2.2.2.cell1; have r2 := K4.out.2.2.2.frozen0; have r3 := K4.out.2.2.2.frozen1; have r4 := K4.out.2.2.2.lt; clear hb4)
  have hp := res_put K4.out.2.2.2 K4.out.1 (by omega) (.int .i64 ((m : Int) - 1)) (.slice Bz Lb cb)
  have hzz := zres_put K4.out.2.2.2 (HZ.out.below K4.out.1) (.int .i64 ((m : Int) - 1)) (.slice Bz Lb cb)
  have y0 := hp.1.cell0
  have y1 := hp.1.cell1
  exact bodyPost_ret (v := zoneV ((m : Int) - 1) Bz Lb cb) (by simp [results, Tryz.results13, go_sem, y0, y1]) rfl ⟨Bz, cb, bb, by rw [HLb.out], by rw [HLb.out]; exact hzz, hp.2⟩
theorem rwiden_any (h0 : 0 < m) (h7 : m ≤ 7) (hn : n ≤ 50) (hS : Sp.Ints w S n f) (ha : ZRes w ba m Ra (zoneV ((m : Int) - 1) A (rlen m Ra) ca)) (hb : ZRes w bb m Rb (zoneV ((m : Int) - 1) Bz (rlen m Rb) cb)) :
    Calls Tryz.prog 13 #[zoneV ((m : Int) - 1) A (rlen m Ra) ca, zoneV ((m : Int) - 1) Bz (rlen m Rb) cb, .slice S n cap] w (RetO w m (rwO m f n Ra Rb)) := by
  by_cases hle : leqO m m Rb Ra = true
  · rw [show rwO m f n Ra Rb = Ra from if_pos hle]
    exact rwiden_one h0 h7 ha hb hle
  · have hle' : leqO m m Rb Ra = false := by cases q : leqO m m Rb Ra; rfl; exact absurd q hle
    match Ra, Rb, hle, hle', ha, hb with
    | none, R, hle, hle', ha, hb =>
      rw [show rwO m f n none R = R from if_neg hle]
      exact rwiden_two h0 h7 ha hb hle'
    | some C, none, hle, hle', ha, hb => exact absurd (by simp [leqO]) hle
    | some C, some B, hle, hle', ha, hb =>
      rw [show rwO m f n (some C) (some B) = setR m (dAll (tAll f n C B (m - 1) (m - 1)) C (dSp f n C B (m - 1)) (m - 1) (m - 1)) from if_neg hle]
      exact (rwiden_pts (u := m - 1) (by omega) h7 hn hS ha hb hle').mono fun _ _ ⟨A, c, h1, h2, h3⟩ => ⟨A, c, _, h1, h2, h3⟩
/-- What the program makes of them has the same points. -/
theorem setR_same {E E' : Mat} (h : Same m E E') : SameO m (setR m E) (setR m E') := by
  unfold setR
  cases ha : aliveB m E
  · have hb : aliveB m E' = false := by
      cases hb : aliveB m E'
      · rfl
      · have := (aliveB_iff _ _).2 (alive_congr (cap_congr (same_symm h)) ((aliveB_iff _ _).1 hb))
        rw [ha] at this
        cases this
    rw [hb]
    simp [SameO]
  · have hb : aliveB m E' = true := (aliveB_iff _ _).2 (alive_congr (cap_congr h) ((aliveB_iff _ _).1 ha))
    rw [hb]
    simp
    exact lev_congr (cap_congr h) m (Nat.le_refl _)
theorem sameO_refl (P : Option Mat) : SameO m P P := by
  cases P with
  | none => trivial
  | some C => exact fun i j hi hj => rfl
theorem rw_wd (h0 : 0 < m) (hA : ∀ C, Ra = some C → Closed m C) (hB : ∀ B, Rb = some B → Closed m B) : SameO m (rwO m f n Ra Rb) (wdO m f n Ra Rb) := by
  unfold rwO wdO
  by_cases hle : leqO m m Rb Ra = true
  · rw [if_pos hle, if_pos hle]; exact sameO_refl _
  · rw [if_neg hle, if_neg hle]
    match Ra, Rb, hA, hB with
    | none, R, _, _ => exact sameO_refl _
    | some C, none, _, _ => exact sameO_refl _
    | some C, some B, hA, hB =>
      have hC := hA C rfl
      have hBB := hB B rfl
      obtain ⟨v, rfl⟩ : ∃ v, m = v + 1 := ⟨m - 1, by omega⟩
      refine sameO_trans (setR_same (d_all hC)) (sameO_trans (widen_same (mv := tAll f n C B v v) (fun k _ => tAll_all hC hBB k) hC hBB h0) ?_)
      refine setR_same fun i j hi hj => ?_
      have e : ∀ k, tAll f n C B v v k = mvS (v + 1) f n C B ((v + 1) * (v + 1)) k := fun k => by
        have a := tAll_all (f := f) (n := n) hC hBB k
        have b := mvS_all (f := f) (n := n) (C := C) (B := B) h0 k
        rw [Bool.eq_iff_iff]
        exact a.trans b.symm
      unfold prM
      simp only [e]
end
end Go.Proofs.YtimckaphmfidhaaGreatDoor
