/- Put together of: RClean, RSets, RWith. -/
import Derived.Test.YtlddelnbjihhgaaGreatDoorRClose
import Derived.Test.YtlddelnbjihhgaaGreatDoorLeq
import Derived.Test.YtlddelnbjihhgaaGreatDoorGuard
/- The contracts of the document's Close and Clean, of any zone. -/
namespace Go.Proofs.YtlddelnbjihhgaaGreatDoor
open Go.RowKit
attribute [local go_sem ↓] Go.wp_at_zero Go.wp_at_succ

section
variable {w : World} {v : Value} {N : Int} {len : Nat} {f : Nat → Int}
theorem zr_not {N : Int} {len : Nat} {f : Nat → Int} (h : mayB N = false ∨ (mayB N = true ∧ len ≠ zm N * zm N)) : zr N len f = none := by
  unfold zr
  rcases h with h | ⟨h, h2⟩
  · rw [h]; simp
  · rw [decide_eq_false h2]; simp
theorem rclose_z (h : ZArg w v N len f) : Calls Tryz.prog 33 #[v] w (RetC w (zm N) (zr N len f)) := by
  obtain ⟨A, cp, rfl, hlc, h100, hc⟩ := h
  by_cases hbad : mayB N = false ∨ (mayB N = true ∧ len ≠ zm N * zm N)
  · rw [zr_not hbad]
    exact rclose_bad hbad
  · have hm : mayB N = true := by
      cases e : mayB N
      · exact absurd (.inl e) hbad
      · rfl
    have hl : len = zm N * zm N := Classical.byContradiction fun e => hbad (.inr ⟨hm, e⟩)
    have hz := zm_may hm
    have hbd := zm_bd N
    subst hl
    obtain ⟨b, off, rfl, hbk, hcell⟩ := hc (Nat.mul_pos hbd.1 hbd.1)
    have key : ∀ (M : Int), ((zm N : Nat) : Int) - 1 = M → Calls Tryz.prog 33 #[zoneV M (some ⟨b, off, none⟩) (zm N * zm N) cp] w (RetC w (zm N) (zr N (zm N * zm N) f)) := fun M hM => by
      subst hM
      refine rclose_good hbd.1 hbd.2 hbk hcell hlc (fun ha => ?_) fun ha => ?_
      · unfold zr
        rw [hm, (aliveB_iff _ _).2 ha]
        simp
      · have e : aliveB (zm N) (nearM (zm N) f) = false := by
          cases e : aliveB (zm N) (nearM (zm N) f)
          · rfl
          · exact absurd ((aliveB_iff _ _).1 e) ha
        unfold zr
        rw [e]
        simp
    exact key N hz
/-- A right zone stays, where a box is written. -/
theorem zres_put {wr : World} {b base m : Nat} {R : Option Mat} {x y z : Value} (h : Duo wr b 24 x y) (hz : ZRes wr base m R z) (u v : Value) : ZRes ((wr.setCell ⟨b, 0, none⟩ u).setCell ⟨b, 1, none⟩ v) base m R z := by
  cases R with
  | none => exact hz
  | some C =>
    obtain ⟨hc, g, cap, e, ho⟩ := hz
    exact ⟨hc, g, cap, e, row_put h ho u v⟩
theorem rclean_z (h : ZArg w v N len f) : Calls Tryz.prog 7 #[v] w (RetC w (zm N) (zr N len f)) := by
  have hz := h
  obtain ⟨A, cp, rfl, hlc, h100, hc⟩ := h
  have hb := (zboxed w (.cells #[.int .i64 N, .slice A len cp] 24)).trans ((zboxed (w.alloc (.cells #[.int .i64 N, .slice A len cp] 24)) (.cells #[.int .i64 0, .slice none 0 0] 24)).mono (by simp))
  have k0 := (Duo.new w 24 (.int .i64 N) (.slice A len cp)).alloc (.cells #[.int .i64 0, .slice none 0 0] 24)
  have k1 := Duo.new (w.alloc (.cells #[.int .i64 N, .slice A len cp] 24)) 24 (.int .i64 0) (.slice none 0 0)
  rw [World.size_alloc] at k1
  obtain ⟨W2, hW2⟩ : ∃ W2, (w.alloc (.cells #[.int .i64 N, .slice A len cp] 24)).alloc (.cells #[.int .i64 0, .slice none 0 0] 24) = W2 := ⟨_, rfl⟩
  rw [hW2] at hb k0 k1
  have c0 := k0.cell0
  have c1 := k0.cell1
  have c2 := k0.lt
  have HCl := Lib.hid (rclose_z (hz.below hb))
  have HB := Lib.hid hb
  have HK := Lib.hid k1
  by_cases h0 : len = 0
  · subst h0
    have hno : zr N 0 f = none := by
      cases e : mayB N
      · exact zr_not (.inl e)
      · refine zr_not (.inr ⟨e, fun e2 => ?_⟩)
        have := Nat.mul_pos (zm_bd N).1 (zm_bd N).1
        omega
    rw [hno]
    have HBt : Hid (∀ W, Calls Tryz.prog 24 #[.int .i64 N] W (RetBot (((zm N : Nat) : Int) - 1) W)) := Lib.hid fun W => by
      have h := rbottom_any N W
      have e : botN N = ((zm N : Nat) : Int) - 1 := by
        unfold botN zm
        cases hm : mayB N
        · simp
        · have := (mayB_iff N).1 hm; simp; omega
      rw [e] at h
      exact h
    obtain ⟨M, hM⟩ : ∃ M : Int, ((zm N : Nat) : Int) - 1 = M := ⟨_, rfl⟩
    rw [hM] at HBt
    have HMM := Lib.hid hM
    clear hM hz hc hb k0 k1 hno
    go_enter Tryz.func7, Tryz.ntmps7
    go_wp2_with (go_at_call 24; ((with_reducible refine (HBt.out _).mono ?_); rintro e w6 ⟨rfl, hb6⟩); have H6 := Lib.hid (HK.out.below hb6); have HB6 := Lib.hid (HB.out.trans (hb6.mono HB.out.size)); have r0 := H6.out.cell0; have r1 := H6.out.cell1; have r2 := H6.out.frozen0; have r3 := H6.out.frozen1; have r4 := H6.out.lt; clear hb6)
    have hp := res_put H6.out HB6.out (by omega) (.int .i64 M) (.slice none 0 0)
    have y0 := hp.1.cell0
    have y1 := hp.1.cell1
    exact bodyPost_ret (v := zoneV M none 0 0) (by simp [results, Tryz.results7, go_sem, y0, y1]) rfl ⟨none, 0, by rw [HMM.out]; rfl, rfl, hp.2⟩
  · have hd : ((len : Int) == 0) = false := by simpa using h0
    obtain ⟨M, hM⟩ : ∃ M : Int, ((zm N : Nat) : Int) - 1 = M := ⟨_, rfl⟩
    have HMM := Lib.hid hM
    clear hM hz hc hb k0 k1
    go_enter Tryz.func7, Tryz.ntmps7
    go_wp2_with (go_at_call 33; ((with_reducible refine HCl.out.mono ?_); rintro e w6 ⟨A6, c6, rfl, hz6, hb6⟩); have H6 := Lib.hid (HK.out.below hb6); have HB6 := Lib.hid (HB.out.trans (hb6.mono HB.out.size)); have HZ6 := Lib.hid hz6; have r0 := H6.out.cell0; have r1 := H6.out.cell1; have r2 := H6.out.frozen0; have r3 := H6.out.frozen1; have r4 := H6.out.lt; clear hb6 hz6)
    have hp := res_put H6.out HB6.out (by omega) (.int .i64 (((zm N : Nat) : Int) - 1)) (.slice A6 (rlen (zm N) (zr N len f)) c6)
    have y0 := hp.1.cell0
    have y1 := hp.1.cell1
    have hzz := zres_put H6.out (HZ6.out.lower HB.out.size) (.int .i64 (((zm N : Nat) : Int) - 1)) (.slice A6 (rlen (zm N) (zr N len f)) c6)
    exact bodyPost_ret (v := zoneV (((zm N : Nat) : Int) - 1) A6 (rlen (zm N) (zr N len f)) c6) (by simp [results, Tryz.results7, go_sem, y0, y1]) rfl ⟨A6, c6, rfl, hzz, hp.2⟩
end
end Go.Proofs.YtlddelnbjihhgaaGreatDoor

/- The contracts of the document's Same (of two that are the same), Leq, Join, of right zones of one N. -/
namespace Go.Proofs.YtlddelnbjihhgaaGreatDoor
open Go.RowKit
attribute [local go_sem ↓] Go.wp_at_zero Go.wp_at_succ

/-- The t-th bound. -/
def fl (m : Nat) (C : Mat) (t : Nat) : Int := C (t / m) (t % m)
theorem fl_at {m : Nat} (C : Mat) {t : Nat} (h : t < m * m) : (flatL m C)[t]? = some (fl m C t) := by
  unfold flatL fl
  rw [List.getElem?_map, List.getElem?_range h]
  rfl
/-- A right zone with a point, as it is read. -/
structure RP (m g c : Nat) (C : Mat) (W : World) : Prop where
  row : W.ownsRow 0 3 1 (.slice (some ⟨g, 0, none⟩) (m * m) c) (m * m) ((flatL m C).map (Value.int .i64))
section
variable {W W1 : World} {m g c base : Nat} {C D : Mat} {A : Option Addr}
theorem RP.below (h : RP m g c C W) (hb : Below W.heap.size W W1) : RP m g c C W1 := ⟨own_kept_below h.row hb⟩
theorem RP.at_ (h : RP m g c C W) {t : Nat} (ht : t < m * m) : W.cell? ⟨g, t, none⟩ = some (.int .i64 (fl m C t)) ∧ g < W.heap.size :=
  ⟨(h.row.cellAt t (by omega)).trans (by rw [List.getElem?_map, fl_at C ht]; rfl), (h.row.lt g rfl).2⟩
theorem rp_of (h : ZRes W base m (some C) (zoneV ((m : Int) - 1) A (rlen m (some C)) c)) : ∃ g, A = some ⟨g, 0, none⟩ ∧ RP m g c C W ∧ Closed m C := by
  obtain ⟨g, hA, hc, hr⟩ := zres_some h
  exact ⟨g, hA, ⟨own_lower hr (Nat.zero_le _)⟩, hc⟩
theorem rn_of (h : ZRes W base m none (zoneV ((m : Int) - 1) A (rlen m none) c)) : A = none ∧ c = 0 := by
  have h' : zoneV ((m : Int) - 1) A 0 c = zoneV ((m : Int) - 1) none 0 0 := h
  injection h' with h'
  injection h' with h'
  simp at h'
  exact h'
/-- Both boxes. -/
theorem two_boxes_r (W : World) (a a' b b' : Value) : ∃ W2, (W.alloc (.cells #[a, a'] 24)).alloc (.cells #[b, b'] 24) = W2 ∧ Duo W2 W.heap.size 24 a a' ∧ Duo W2 (W.heap.size + 1) 24 b b' ∧ Below W.heap.size W W2 ∧ W2.heap.size = W.heap.size + 2 := by
  have k1 := Duo.new (W.alloc (.cells #[a, a'] 24)) 24 b b'
  rw [World.size_alloc] at k1
  exact ⟨_, rfl, (Duo.new W _ _ _).alloc _, k1, (zboxed W _).trans ((zboxed _ _).mono (by simp)), by simp⟩
end
section
variable {w : World} {m : Nat} {R : Option Mat} {A B : Option Addr} {ba bb ca cb : Nat}
set_option maxRecDepth 100000 in
set_option maxHeartbeats 3200000 in
theorem rsame_true (h7 : m ≤ 7) (ha : ZRes w ba m R (zoneV ((m : Int) - 1) A (rlen m R) ca)) (hb : ZRes w bb m R (zoneV ((m : Int) - 1) B (rlen m R) cb)) :
    Calls Tryz.prog 54 #[zoneV ((m : Int) - 1) A (rlen m R) ca, zoneV ((m : Int) - 1) B (rlen m R) cb] w (ZRetBool true w) := by
  obtain ⟨W2, hW2, k0, k1, hb2, hs2⟩ := two_boxes_r w (.int .i64 ((m : Int) - 1)) (.slice A (rlen m R) ca) (.int .i64 ((m : Int) - 1)) (.slice B (rlen m R) cb)
  have c0 := k0.cell0
  have c1 := k0.cell1
  have c2 := k0.lt
  have c3 := k1.cell0
  have c4 := k1.cell1
  have c5 := k1.lt
  have HB := Lib.hid hb2
  have HK := Lib.hid (And.intro k0 k1)
  cases R with
  | none =>
    have e0 : rlen m (none : Option Mat) = 0 := rfl
    rw [e0] at hW2 c1 c4
    clear ha hb k0 k1 hb2
    go_enter Tryz.func54, Tryz.ntmps54
    go_wp2_with fail
    go_loopg [5] 0 (fun gk t5 wr => t5 = .int .i64 0 ∧ wr = W2)
    case atStart => exact ⟨rfl, rfl⟩
    case round =>
      obtain ⟨rfl, rfl⟩ := hrel
      go_wp2_with fail
      go_ret
      exact ⟨rfl, HB.out⟩
  | some C =>
    obtain ⟨g1, rfl, p1, -⟩ := rp_of ha
    obtain ⟨g2, rfl, p2, -⟩ := rp_of hb
    have hmm2 : m * m ≤ 49 := Nat.mul_le_mul h7 h7
    have e0 : rlen m (some C) = m * m := rfl
    rw [e0] at hW2 c1 c4 HK
    have HP := Lib.hid (And.intro (p1.below hb2) (p2.below hb2))
    clear ha hb k0 k1 p1 p2 hb2
    go_enter Tryz.func54, Tryz.ntmps54
    go_wp2_with fail
    go_loopg [5] (m * m) (fun gk t5 wr => ∃ t : Nat, t + gk = m * m ∧ t5 = .int .i64 (t : Int) ∧ Below W2.heap.size W2 wr)
    case atStart => exact ⟨0, by omega, rfl, Below.refl _ _⟩
    case round =>
      rename Nat => g0
      obtain ⟨t, ht, rfl, hbw⟩ := hrel
      have HT := Lib.hid ht
      have HBw := Lib.hid hbw
      have HKw := Lib.hid (And.intro (HK.out.1.below hbw) (HK.out.2.below hbw))
      clear ht hbw c0 c1 c2 c3 c4 c5
      have c0 := HKw.out.1.cell0
      have c1 := HKw.out.1.cell1
      have c2 := HKw.out.1.lt
      have c4 := HKw.out.2.cell1
      have c5 := HKw.out.2.lt
      by_cases htm : t < m * m
      · obtain ⟨d1, d2⟩ := (HP.out.1.below HBw.out).at_ htm
        obtain ⟨d3, d4⟩ := (HP.out.2.below HBw.out).at_ htm
        have hti : (t : Int) < ((m * m : Nat) : Int) := by omega
        obtain ⟨x, hx⟩ : ∃ x, fl m C t = x := ⟨_, rfl⟩
        rw [hx] at d1 d3
        clear hx
        go_wp2_with fail
        go_quiet (fail)
        go_wp2_with fail
        have ht := HT.out
        go_roundg (g0 - 1)
        case measure => omega
        case rel => exact ⟨t + 1, by omega, by simp, HBw.out.trans ((rdrewN_below _ _).mono HBw.out.size)⟩
      · have hte : t = m * m := by have := HT.out; omega
        subst hte
        go_wp2_with fail
        go_ret
        exact ⟨rfl, HB.out.trans (HBw.out.mono HB.out.size)⟩
/-- Which bounds were compared, and are not above. -/
theorem leB_all {m : Nat} {C D : Mat} (h0 : 0 < m) (h : ∀ t, t < m * m → fl m C t ≤ fl m D t) : leB m C D = true := by
  rw [leB_iff]
  intro i j hi hj
  have := h (i * m + j) (spot_lt hi hj)
  unfold fl at this
  rw [Nat.mul_comm i m, Nat.mul_add_div h0, Nat.mul_add_mod, Nat.div_eq_of_lt hj, Nat.mod_eq_of_lt hj, Nat.add_zero] at this
  exact this
theorem leB_not {m t : Nat} {C D : Mat} (h0 : 0 < m) (ht : t < m * m) (h : fl m D t < fl m C t) : leB m C D = false :=
  leB_no (Nat.div_lt_of_lt_mul ht) (Nat.mod_lt _ h0) h
set_option maxRecDepth 100000 in
set_option maxHeartbeats 3200000 in
theorem rleq_any {Ra Rb : Option Mat} (h0 : 0 < m) (h7 : m ≤ 7) (ha : ZRes w ba m Ra (zoneV ((m : Int) - 1) A (rlen m Ra) ca)) (hb : ZRes w bb m Rb (zoneV ((m : Int) - 1) B (rlen m Rb) cb)) :
    Calls Tryz.prog 62 #[zoneV ((m : Int) - 1) A (rlen m Ra) ca, zoneV ((m : Int) - 1) B (rlen m Rb) cb] w (ZRetBool (leqO m m Ra Rb) w) := by
  obtain ⟨W2, hW2, k0, k1, hb2, hs2⟩ := two_boxes_r w (.int .i64 ((m : Int) - 1)) (.slice A (rlen m Ra) ca) (.int .i64 ((m : Int) - 1)) (.slice B (rlen m Rb) cb)
  have c0 := k0.cell0
  have c1 := k0.cell1
  have c2 := k0.lt
  have c3 := k1.cell0
  have c4 := k1.cell1
  have c5 := k1.lt
  have HB := Lib.hid hb2
  have HK := Lib.hid (And.intro k0 k1)
  have hmm2 : m * m ≤ 49 := Nat.mul_le_mul h7 h7
  have hmm : 0 < m * m := Nat.mul_pos h0 h0
  cases Ra with
  | none =>
    have e0 : rlen m (none : Option Mat) = 0 := rfl
    rw [e0] at hW2 c1
    rw [show leqO m m none Rb = true from decide_eq_true rfl]
    clear ha hb k0 k1 hb2
    go_enter Tryz.func62, Tryz.ntmps62
    go_wp2_with fail
    go_ret
    exact ⟨rfl, HB.out⟩
  | some C =>
    obtain ⟨g1, rfl, p1, -⟩ := rp_of ha
    have e0 : rlen m (some C) = m * m := rfl
    rw [e0] at hW2 c1 HK
    have q0 : (((m * m : Nat) : Int) == 0) = false := by simp; omega
    have q1 : decide (m * m = 0) = false := decide_eq_false (by omega)
    have q3 : ((m : Int) * (m : Int) == 0) = false := by rw [← Int.natCast_mul]; exact q0
    have q4 : decide ((m : Int) * (m : Int) = 0) = false := by rw [← Int.natCast_mul]; exact decide_eq_false (by omega)
    cases Rb with
    | none =>
      obtain ⟨rfl, rfl⟩ := rn_of hb
      have e1 : rlen m (none : Option Mat) = 0 := rfl
      rw [e1] at hW2 c4 HK
      rw [show leqO m m (some C) none = false from rfl]
      have q2 : (0 : Int) < ((m * m : Nat) : Int) := by omega
      clear ha hb k0 k1 hb2 p1
      go_enter Tryz.func62, Tryz.ntmps62
      go_wp2_with fail
      go_loopg [5] 0 (fun gk t5 wr => t5 = .int .i64 0 ∧ wr = W2)
      case atStart => exact ⟨rfl, rfl⟩
      case round =>
        obtain ⟨rfl, rfl⟩ := hrel
        go_wp2_with fail
        go_quiet (fail)
        go_wp2_with fail
        go_ret
        exact ⟨rfl, HB.out.trans ((rdrewN_below _ _).mono HB.out.size)⟩
    | some D =>
      obtain ⟨g2, rfl, p2, -⟩ := rp_of hb
      have e1 : rlen m (some D) = m * m := rfl
      rw [e1] at hW2 c4 HK
      rw [show leqO m m (some C) (some D) = leB m C D by show (decide (m = m) && _) = _; simp]
      have HP := Lib.hid (And.intro (p1.below hb2) (p2.below hb2))
      clear ha hb k0 k1 p1 p2 hb2
      go_enter Tryz.func62, Tryz.ntmps62
      go_wp2_with fail
      go_loopg [5] (m * m) (fun gk t5 wr => ∃ t : Nat, t + gk = m * m ∧ t5 = .int .i64 (t : Int) ∧ Below W2.heap.size W2 wr ∧ ∀ q, q < t → fl m C q ≤ fl m D q)
      case atStart => exact ⟨0, by omega, rfl, Below.refl _ _, fun q hq => absurd hq (Nat.not_lt_zero _)⟩
      case round =>
        rename Nat => g0
        obtain ⟨t, ht, rfl, hbw, hall⟩ := hrel
        have HT := Lib.hid ht
        have HBw := Lib.hid hbw
        have HAll := Lib.hid hall
        have HKw := Lib.hid (And.intro (HK.out.1.below hbw) (HK.out.2.below hbw))
        clear ht hbw hall c0 c1 c2 c3 c4 c5
        have c1 := HKw.out.1.cell1
        have c2 := HKw.out.1.lt
        have c4 := HKw.out.2.cell1
        have c5 := HKw.out.2.lt
        by_cases htm : t < m * m
        · obtain ⟨d1, d2⟩ := (HP.out.1.below HBw.out).at_ htm
          obtain ⟨d3, d4⟩ := (HP.out.2.below HBw.out).at_ htm
          have hti : (t : Int) < ((m * m : Nat) : Int) := by omega
          have HNo : Hid (fl m D t < fl m C t → leB m C D = false) := Lib.hid (leB_not h0 htm)
          have HYes : Hid (fl m C t ≤ fl m D t → ∀ q, q < t + 1 → fl m C q ≤ fl m D q) := Lib.hid fun hx q hq => by
            by_cases e : q = t
            · subst e; exact hx
            · exact HAll.out q (by omega)
          obtain ⟨x, hx⟩ : ∃ x, fl m C t = x := ⟨_, rfl⟩
          obtain ⟨y, hy⟩ : ∃ y, fl m D t = y := ⟨_, rfl⟩
          rw [hx] at d1 HNo HYes
          rw [hy] at d3 HNo HYes
          clear hx hy
          by_cases hxy : y < x
          · have hd : decide (y < x) = true := decide_eq_true hxy
            go_wp2_with fail
            go_quiet (fail)
            go_wp2_with fail
            go_ret
            exact ⟨by rw [HNo.out hxy]; rfl, HB.out.trans ((HBw.out.trans ((rdrewN_below _ _).mono HBw.out.size)).mono HB.out.size)⟩
          · have hd : decide (y < x) = false := decide_eq_false hxy
            go_wp2_with fail
            go_quiet (fail)
            go_wp2_with fail
            have ht := HT.out
            go_roundg (g0 - 1)
            case measure => omega
            case rel => exact ⟨t + 1, by omega, by simp, HBw.out.trans ((rdrewN_below _ _).mono HBw.out.size), HYes.out (by omega)⟩
        · have hte : t = m * m := by have := HT.out; omega
          subst hte
          go_wp2_with fail
          go_ret
          exact ⟨by rw [leB_all h0 HAll.out]; rfl, HB.out.trans (HBw.out.mono HB.out.size)⟩
end
end Go.Proofs.YtlddelnbjihhgaaGreatDoor

/- The contracts of the document's with, Join, Meet (of right zones of one N), and the law's same. -/
namespace Go.Proofs.YtlddelnbjihhgaaGreatDoor
open Go.RowKit
attribute [local go_sem ↓] Go.wp_at_zero Go.wp_at_succ

/-- A zone's row, as it is handed on (closed or not). -/
structure RZ (m g c : Nat) (E : Mat) (base : Nat) (W : World) : Prop where
  row : W.ownsRow base 3 1 (.slice (some ⟨g, 0, none⟩) (m * m) c) (m * m) ((flatL m E).map (Value.int .i64))
section
variable {W W1 : World} {m g c base : Nat} {E : Mat}
theorem RZ.below (h : RZ m g c E base W) (hb : Below W.heap.size W W1) : RZ m g c E base W1 := ⟨own_kept_below h.row hb⟩
theorem RZ.at_ (h : RZ m g c E base W) {i j : Nat} (hi : i < m) (hj : j < m) : W.cell? ⟨g, i * m + j, none⟩ = some (.int .i64 (E i j)) ∧ W.frozen? ⟨g, i * m + j, none⟩ = false ∧ g < W.heap.size :=
  ⟨(h.row.cellAt _ (by have := spot_lt hi hj; omega)).trans (by rw [List.getElem?_map, flat_at E hi hj]; rfl), h.row.frozenAt _, (h.row.lt g rfl).2⟩
end
def RetRZ (w : World) (m : Nat) (E : Mat) (e : Ending) (w' : World) : Prop := ∃ g c, e = .returned (zoneV ((m : Int) - 1) (some ⟨g, 0, none⟩) (m * m) c) ∧ RZ m g c E w.heap.size w' ∧ Below w.heap.size w w'
section
variable {w : World} {m g c i j : Nat} {E : Mat} {x : Int} {base : Nat}
set_option maxRecDepth 100000 in
set_option maxHeartbeats 6400000 in
theorem rwith_any (h0 : 0 < m) (h7 : m ≤ 7) (hi : i < m) (hj : j < m) (hr : RZ m g c E base w) :
    Calls Tryz.prog 52 #[zoneV ((m : Int) - 1) (some ⟨g, 0, none⟩) (m * m) c, .int .i64 (i : Int), .int .i64 (j : Int), .int .i64 x] w (RetRZ w m (grd E i j x)) := by
  obtain ⟨i0, hi0, hz0, hz1, hz2⟩ := info_parts zinfo3
  have hmm : 0 < m * m := Nat.mul_pos h0 h0
  have hmm2 : m * m ≤ 49 := Nat.mul_le_mul h7 h7
  obtain ⟨e1, e2, e3, e4⟩ := mul_idx h7 hi hj
  obtain ⟨W2, hW2, k0, k1, hb2, hs2⟩ := two_boxes_r w (.int .i64 ((m : Int) - 1)) (.slice (some ⟨g, 0, none⟩) (m * m) c) (.int .i64 0) (.slice none 0 0)
  have hb3 := zboxed W2 (.cells #[] 3)
  have hlit := World.ownsRow_lit (base := w.heap.size + 2) (e := 3) (size := 1) W2 #[] 0 (by omega) (by unfold maxLen; omega) rfl
  rw [hs2] at hlit
  have HLit := Lib.hid hlit
  clear hlit
  have HR := Lib.hid (rowAt_own ((hr.below hb2).below hb3).row)
  have HLen : Hid (((flatL m E).map (Value.int .i64)).length = m * m * 1 ∧ (0 + m * m ≤ maxLen ∧ (0 + m * m) * 8 ≤ 140737488355328) ∧ w.heap.size + 2 ≤ (W2.alloc (.cells #[] 3)).heap.size) := Lib.hid ⟨by rw [List.length_map, flat_len]; omega, by unfold maxLen; omega, by rw [World.size_alloc]; omega⟩
  have HQ : Hid (∀ W4 go co, (W2.alloc (.cells #[] 3)).grownBy W4 (some (w.heap.size + 2)) → W4.ownsRow (w.heap.size + 2) 3 1 (.slice (some ⟨go, 0, none⟩) (m * m) co) (m * m) ((flatL m E).map (Value.int .i64)) →
      Duo W4 w.heap.size 24 (.int .i64 ((m : Int) - 1)) (.slice (some ⟨g, 0, none⟩) (m * m) c) ∧ Duo W4 (w.heap.size + 1) 24 (.int .i64 0) (.slice none 0 0) ∧ Below w.heap.size w W4 ∧ RZ m go co E (w.heap.size + 2) W4 ∧ w.heap.size + 2 ≤ go) := Lib.hid fun W4 go co hg ho => by
    have hb : Below W2.heap.size W2 W4 := hb3.grown hg hb3.size (fun k hk => by injection hk with hk; omega)
    exact ⟨k0.below hb, k1.below hb, hb2.trans (hb.mono hb2.size), ⟨ho⟩, (ho.lt go rfl).1⟩
  have HMm := Lib.hid hmm
  have hg1 : grd E i j x = upd E i j (min (E i j) x) := rfl
  have HX := Lib.hid hg1
  have HIJ := Lib.hid (And.intro hi hj)
  have c0 := k0.cell0
  have c1 := k0.cell1
  have c2 := k0.lt
  obtain ⟨t, ht⟩ : ∃ t, i * m + j = t := ⟨_, rfl⟩
  rw [ht] at e1 e4
  have HT := Lib.hid ht
  have e5 : (t : Int) < ((m * m : Nat) : Int) := by omega
  have e6 : (t : Int) < (m : Int) * (m : Int) := by rw [← Int.natCast_mul]; exact e5
  have hw0 : IntKind.i64.wrap (m : Int) = (m : Int) := IntWalk.i64_in _ (by omega)
  have hw1 : IntKind.i64.wrap ((i : Int) * (m : Int)) = (i : Int) * (m : Int) := IntWalk.i64_in _ (by omega)
  have hw2 : IntKind.i64.wrap ((i : Int) * (m : Int) + (j : Int)) = (t : Int) := by rw [e1]; exact IntWalk.i64_in _ (by omega)
  have hw3 : IntKind.i64.wrap (t : Int) = (t : Int) := IntWalk.i64_in _ (by omega)
  obtain ⟨y, hy⟩ : ∃ y, E i j = y := ⟨_, rfl⟩
  have HY := Lib.hid hy
  clear hr k0 k1 hb2 hb3 hmm hi hj ht hg1 hy
  by_cases hlt : x < y
  · have hd : decide (x < y) = true := decide_eq_true hlt
    go_enter Tryz.func52, Tryz.ntmps52
    go_wp2_with (at_builtin; refine wpList_append_rows rfl _ _ 22 rfl (w.heap.size + 2) 3 i0 (.int .i64 0) 1 8 Tryz.underlying22 hi0 hz0 hz1 hz2 rfl (by decide) _ _ _ rfl HLit.out _ (m * m) ((flatL m E).map (Value.int .i64)) rfl HR.out HLen.out.1 (ints_one _) HLen.out.2.1.1 HLen.out.2.1.2 HLen.out.2.2 ?_; intro v5 w5 ho hg hv; (rw [Nat.zero_add, List.nil_append] at ho); obtain ⟨go, co, hv5, hcq⟩ := row_pos ho HMm.out; subst hv5; have K := Lib.hid (HQ.out _ _ _ hg ho); have k0 := K.out.1.cell0; have k1 := K.out.1.cell1; have k2 := K.out.1.lt; have k3 := K.out.2.1.cell0; have k4 := K.out.2.1.cell1; have k5 := K.out.2.1.frozen0; have k6 := K.out.2.1.frozen1; have k7 := K.out.2.1.lt; have n0 := Nat.ne_of_gt (Nat.lt_of_lt_of_le (Nat.lt_add_of_pos_right (Nat.zero_lt_succ 1)) K.out.2.2.2.2); have n1 := Nat.ne_of_gt (Nat.lt_of_lt_of_le (Nat.lt_succ_self (w.heap.size + 1)) K.out.2.2.2.2); have kk := K.out.2.2.2.1.at_ HIJ.out.1 HIJ.out.2; (rw [HT.out, HY.out] at kk); obtain ⟨l0, l1, l2⟩ := kk; clear ho hg hv)
    have hrow := K.out.2.2.2.1.row
    obtain ⟨hs, hg2⟩ := hrow.stored (i * m + j) (.int .i64 x)
    rw [← List.map_set, flat_set E HIJ.out.2 x] at hs
    rw [HT.out] at hs
    have hD := (K.out.2.1.other (a := ⟨go, t, none⟩) (fun e => n1 e.symm) (.int .i64 x))
    have hb := K.out.2.2.1.setCell (p := ⟨go, t, none⟩) (by have := K.out.2.2.2.2; show w.heap.size ≤ go; omega) (.int .i64 x)
    have hp := res_put hD hb (by omega) (.int .i64 ((m : Int) - 1)) (.slice (some ⟨go, 0, none⟩) (m * m) co)
    have hr' := row_put hD hs (.int .i64 ((m : Int) - 1)) (.slice (some ⟨go, 0, none⟩) (m * m) co)
    have q0 := hp.1.cell0
    have q1 := hp.1.cell1
    refine bodyPost_ret (v := zoneV ((m : Int) - 1) (some ⟨go, 0, none⟩) (m * m) co) (by simp [results, Tryz.results52, go_sem, q0, q1]) rfl ⟨go, co, rfl, ⟨own_lower (show World.ownsRow _ (w.heap.size + 2) _ _ _ _ _ from ?_) (by omega)⟩, hp.2⟩
    rw [HX.out, HY.out, show min y x = x by omega]
    exact hr'
  · have hd : decide (x < y) = false := decide_eq_false hlt
    go_enter Tryz.func52, Tryz.ntmps52
    go_wp2_with (at_builtin; refine wpList_append_rows rfl _ _ 22 rfl (w.heap.size + 2) 3 i0 (.int .i64 0) 1 8 Tryz.underlying22 hi0 hz0 hz1 hz2 rfl (by decide) _ _ _ rfl HLit.out _ (m * m) ((flatL m E).map (Value.int .i64)) rfl HR.out HLen.out.1 (ints_one _) HLen.out.2.1.1 HLen.out.2.1.2 HLen.out.2.2 ?_; intro v5 w5 ho hg hv; (rw [Nat.zero_add, List.nil_append] at ho); obtain ⟨go, co, hv5, hcq⟩ := row_pos ho HMm.out; subst hv5; have K := Lib.hid (HQ.out _ _ _ hg ho); have k0 := K.out.1.cell0; have k1 := K.out.1.cell1; have k2 := K.out.1.lt; have k3 := K.out.2.1.cell0; have k4 := K.out.2.1.cell1; have k5 := K.out.2.1.frozen0; have k6 := K.out.2.1.frozen1; have k7 := K.out.2.1.lt; have n0 := Nat.ne_of_gt (Nat.lt_of_lt_of_le (Nat.lt_add_of_pos_right (Nat.zero_lt_succ 1)) K.out.2.2.2.2); have n1 := Nat.ne_of_gt (Nat.lt_of_lt_of_le (Nat.lt_succ_self (w.heap.size + 1)) K.out.2.2.2.2); have kk := K.out.2.2.2.1.at_ HIJ.out.1 HIJ.out.2; (rw [HT.out, HY.out] at kk); obtain ⟨l0, l1, l2⟩ := kk; clear ho hg hv)
    have hp := res_put K.out.2.1 K.out.2.2.1 (by omega) (.int .i64 ((m : Int) - 1)) (.slice (some ⟨go, 0, none⟩) (m * m) co)
    have hr' := row_put K.out.2.1 K.out.2.2.2.1.row (.int .i64 ((m : Int) - 1)) (.slice (some ⟨go, 0, none⟩) (m * m) co)
    have q0 := hp.1.cell0
    have q1 := hp.1.cell1
    refine bodyPost_ret (v := zoneV ((m : Int) - 1) (some ⟨go, 0, none⟩) (m * m) co) (by simp [results, Tryz.results52, go_sem, q0, q1]) rfl ⟨go, co, rfl, ⟨own_lower (show World.ownsRow _ (w.heap.size + 2) _ _ _ _ _ from ?_) (by omega)⟩, hp.2⟩
    rw [flat_congr (show Same m (grd E i j x) E from fun a b _ _ => by
      rw [HX.out, HY.out, show min y x = y by omega]
      unfold upd
      split
      · rename_i e
        rw [e.1, e.2, HY.out]
      · rfl)]
    exact hr'
end
end Go.Proofs.YtlddelnbjihhgaaGreatDoor
