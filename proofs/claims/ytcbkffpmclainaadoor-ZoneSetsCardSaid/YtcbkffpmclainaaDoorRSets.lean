/- The contracts of the document's Same (of two that are the same), Leq, Join, of right zones of one N. -/
import Derived.Test.YtcbkffpmclainaaDoorRClean
import Derived.Test.YtcbkffpmclainaaDoorLeq
namespace Go.Proofs.YtcbkffpmclainaaDoor
open Go.RowKit
attribute [local go_sem ↓] Go.wp_at_zero Go.wp_at_succ

/-- The t-th bound. -/
def fl (m : Nat) (C : Mat) (t : Nat) : Int := C (t / m) (t % m)
theorem fl_at {m : Nat} (C : Mat) {t : Nat} (h : t < m * m) : (flatL m C)[t]? = some (fl m C t) := by
  unfold flatL fl
  rw [List.getElem?_map, List.getElem?_range h]
  rfl
/-- A right zone with a point, as it is read. -/
structure RP (m g c : Nat) (C : Mat) (W : World) : Prop where
  row : W.ownsRow 0 3 1 (.slice (some ⟨g, 0, none⟩) (m * m) c) (m * m) ((flatL m C).map (Value.int .i64))
section
variable {W W1 : World} {m g c base : Nat} {C D : Mat} {A : Option Addr}
theorem RP.below (h : RP m g c C W) (hb : Below W.heap.size W W1) : RP m g c C W1 := ⟨own_kept_below h.row hb⟩
theorem RP.at_ (h : RP m g c C W) {t : Nat} (ht : t < m * m) : W.cell? ⟨g, t, none⟩ = some (.int .i64 (fl m C t)) ∧ g < W.heap.size :=
  ⟨(h.row.cellAt t (by omega)).trans (by rw [List.getElem?_map, fl_at C ht]; rfl), (h.row.lt g rfl).2⟩
theorem rp_of (h : ZRes W base m (some C) (zoneV ((m : Int) - 1) A (rlen m (some C)) c)) : ∃ g, A = some ⟨g, 0, none⟩ ∧ RP m g c C W ∧ Closed m C := by
  obtain ⟨g, hA, hc, hr⟩ := zres_some h
  exact ⟨g, hA, ⟨own_lower hr (Nat.zero_le _)⟩, hc⟩
theorem rn_of (h : ZRes W base m none (zoneV ((m : Int) - 1) A (rlen m none) c)) : A = none ∧ c = 0 := by
  have h' : zoneV ((m : Int) - 1) A 0 c = zoneV ((m : Int) - 1) none 0 0 := h
  injection h' with h'
  injection h' with h'
  simp at h'
  exact h'
/-- Both boxes. -/
theorem two_boxes_r (W : World) (a a' b b' : Value) : ∃ W2, (W.alloc (.cells #[a, a'] 24)).alloc (.cells #[b, b'] 24) = W2 ∧ Duo W2 W.heap.size 24 a a' ∧ Duo W2 (W.heap.size + 1) 24 b b' ∧ Below W.heap.size W W2 ∧ W2.heap.size = W.heap.size + 2 := by
  have k1 := Duo.new (W.alloc (.cells #[a, a'] 24)) 24 b b'
  rw [World.size_alloc] at k1
  exact ⟨_, rfl, (Duo.new W _ _ _).alloc _, k1, (zboxed W _).trans ((zboxed _ _).mono (by simp)), by simp⟩
end
section
variable {w : World} {m : Nat} {R : Option Mat} {A B : Option Addr} {ba bb ca cb : Nat}
set_option maxRecDepth 100000 in
set_option maxHeartbeats 3200000 in
theorem rsame_true (h7 : m ≤ 7) (ha : ZRes w ba m R (zoneV ((m : Int) - 1) A (rlen m R) ca)) (hb : ZRes w bb m R (zoneV ((m : Int) - 1) B (rlen m R) cb)) :
    Calls Tryd.prog 49 #[zoneV ((m : Int) - 1) A (rlen m R) ca, zoneV ((m : Int) - 1) B (rlen m R) cb] w (ZRetBool true w) := by
  obtain ⟨W2, hW2, k0, k1, hb2, hs2⟩ := two_boxes_r w (.int .i64 ((m : Int) - 1)) (.slice A (rlen m R) ca) (.int .i64 ((m : Int) - 1)) (.slice B (rlen m R) cb)
  have c0 := k0.cell0
  have c1 := k0.cell1
  have c2 := k0.lt
  have c3 := k1.cell0
  have c4 := k1.cell1
  have c5 := k1.lt
  have HB := Lib.hid hb2
  have HK := Lib.hid (And.intro k0 k1)
  cases R with
  | none =>
    have e0 : rlen m (none : Option Mat) = 0 := rfl
    rw [e0] at hW2 c1 c4
    clear ha hb k0 k1 hb2
    go_enter Tryd.func49, Tryd.ntmps49
    go_wp2_with fail
    go_loopg [5] 0 (fun gk t5 wr => t5 = .int .i64 0 ∧ wr = W2)
    case atStart => exact ⟨rfl, rfl⟩
    case round =>
      obtain ⟨rfl, rfl⟩ := hrel
      go_wp2_with fail
      go_ret
      exact ⟨rfl, HB.out⟩
  | some C =>
    obtain ⟨g1, rfl, p1, -⟩ := rp_of ha
    obtain ⟨g2, rfl, p2, -⟩ := rp_of hb
    have hmm2 : m * m ≤ 49 := Nat.mul_le_mul h7 h7
    have e0 : rlen m (some C) = m * m := rfl
    rw [e0] at hW2 c1 c4 HK
    have HP := Lib.hid (And.intro (p1.below hb2) (p2.below hb2))
    clear ha hb k0 k1 p1 p2 hb2
    go_enter Tryd.func49, Tryd.ntmps49
    go_wp2_with fail
    go_loopg [5] (m * m) (fun gk t5 wr => ∃ t : Nat, t + gk = m * m ∧ t5 = .int .i64 (t : Int) ∧ Below W2.heap.size W2 wr)
    case atStart => exact ⟨0, by omega, rfl, Below.refl _ _⟩
    case round =>
      rename Nat => g0
      obtain ⟨t, ht, rfl, hbw⟩ := hrel
      have HT := Lib.hid ht
      have HBw := Lib.hid hbw
      have HKw := Lib.hid (And.intro (HK.out.1.below hbw) (HK.out.2.below hbw))
      clear ht hbw c0 c1 c2 c3 c4 c5
      have c0 := HKw.out.1.cell0
      have c1 := HKw.out.1.cell1
      have c2 := HKw.out.1.lt
      have c4 := HKw.out.2.cell1
      have c5 := HKw.out.2.lt
      by_cases htm : t < m * m
      · obtain ⟨d1, d2⟩ := (HP.out.1.below HBw.out).at_ htm
        obtain ⟨d3, d4⟩ := (HP.out.2.below HBw.out).at_ htm
        have hti : (t : Int) < ((m * m : Nat) : Int) := by omega
        obtain ⟨x, hx⟩ : ∃ x, fl m C t = x := ⟨_, rfl⟩
        rw [hx] at d1 d3
        clear hx
        go_wp2_with fail
        go_quiet (fail)
        go_wp2_with fail
        have ht := HT.out
        go_roundg (g0 - 1)
        case measure => omega
        case rel => exact ⟨t + 1, by omega, by simp, HBw.out.trans ((rdrewN_below _ _).mono HBw.out.size)⟩
      · have hte : t = m * m := by have := HT.out; omega
        subst hte
        go_wp2_with fail
        go_ret
        exact ⟨rfl, HB.out.trans (HBw.out.mono HB.out.size)⟩
/-- Which bounds were compared, and are not above. -/
theorem leB_all {m : Nat} {C D : Mat} (h0 : 0 < m) (h : ∀ t, t < m * m → fl m C t ≤ fl m D t) : leB m C D = true := by
  rw [leB_iff]
  intro i j hi hj
  have := h (i * m + j) (spot_lt hi hj)
  unfold fl at this
  rw [Nat.mul_comm i m, Nat.mul_add_div h0, Nat.mul_add_mod, Nat.div_eq_of_lt hj, Nat.mod_eq_of_lt hj, Nat.add_zero] at this
  exact this
theorem leB_not {m t : Nat} {C D : Mat} (h0 : 0 < m) (ht : t < m * m) (h : fl m D t < fl m C t) : leB m C D = false :=
  leB_no (Nat.div_lt_of_lt_mul ht) (Nat.mod_lt _ h0) h
set_option maxRecDepth 100000 in
set_option maxHeartbeats 3200000 in
theorem rleq_any {Ra Rb : Option Mat} (h0 : 0 < m) (h7 : m ≤ 7) (ha : ZRes w ba m Ra (zoneV ((m : Int) - 1) A (rlen m Ra) ca)) (hb : ZRes w bb m Rb (zoneV ((m : Int) - 1) B (rlen m Rb) cb)) :
    Calls Tryd.prog 30 #[zoneV ((m : Int) - 1) A (rlen m Ra) ca, zoneV ((m : Int) - 1) B (rlen m Rb) cb] w (ZRetBool (leqO m m Ra Rb) w) := by
  obtain ⟨W2, hW2, k0, k1, hb2, hs2⟩ := two_boxes_r w (.int .i64 ((m : Int) - 1)) (.slice A (rlen m Ra) ca) (.int .i64 ((m : Int) - 1)) (.slice B (rlen m Rb) cb)
  have c0 := k0.cell0
  have c1 := k0.cell1
  have c2 := k0.lt
  have c3 := k1.cell0
  have c4 := k1.cell1
  have c5 := k1.lt
  have HB := Lib.hid hb2
  have HK := Lib.hid (And.intro k0 k1)
  have hmm2 : m * m ≤ 49 := Nat.mul_le_mul h7 h7
  have hmm : 0 < m * m := Nat.mul_pos h0 h0
  cases Ra with
  | none =>
    have e0 : rlen m (none : Option Mat) = 0 := rfl
    rw [e0] at hW2 c1
    rw [show leqO m m none Rb = true from decide_eq_true rfl]
    clear ha hb k0 k1 hb2
    go_enter Tryd.func30, Tryd.ntmps30
    go_wp2_with fail
    go_ret
    exact ⟨rfl, HB.out⟩
  | some C =>
    obtain ⟨g1, rfl, p1, -⟩ := rp_of ha
    have e0 : rlen m (some C) = m * m := rfl
    rw [e0] at hW2 c1 HK
    have q0 : (((m * m : Nat) : Int) == 0) = false := by simp; omega
    have q1 : decide (m * m = 0) = false := decide_eq_false (by omega)
    have q3 : ((m : Int) * (m : Int) == 0) = false := by rw [← Int.natCast_mul]; exact q0
    have q4 : decide ((m : Int) * (m : Int) = 0) = false := by rw [← Int.natCast_mul]; exact decide_eq_false (by omega)
    cases Rb with
    | none =>
      obtain ⟨rfl, rfl⟩ := rn_of hb
      have e1 : rlen m (none : Option Mat) = 0 := rfl
      rw [e1] at hW2 c4 HK
      rw [show leqO m m (some C) none = false from rfl]
      have q2 : (0 : Int) < ((m * m : Nat) : Int) := by omega
      clear ha hb k0 k1 hb2 p1
      go_enter Tryd.func30, Tryd.ntmps30
      go_wp2_with fail
      go_loopg [5] 0 (fun gk t5 wr => t5 = .int .i64 0 ∧ wr = W2)
      case atStart => exact ⟨rfl, rfl⟩
      case round =>
        obtain ⟨rfl, rfl⟩ := hrel
        go_wp2_with fail
        go_quiet (fail)
        go_wp2_with fail
        go_ret
        exact ⟨rfl, HB.out.trans ((rdrewN_below _ _).mono HB.out.size)⟩
    | some D =>
      obtain ⟨g2, rfl, p2, -⟩ := rp_of hb
      have e1 : rlen m (some D) = m * m := rfl
      rw [e1] at hW2 c4 HK
      rw [show leqO m m (some C) (some D) = leB m C D by show (decide (m = m) && _) = _; simp]
      have HP := Lib.hid (And.intro (p1.below hb2) (p2.below hb2))
      clear ha hb k0 k1 p1 p2 hb2
      go_enter Tryd.func30, Tryd.ntmps30
      go_wp2_with fail
      go_loopg [5] (m * m) (fun gk t5 wr => ∃ t : Nat, t + gk = m * m ∧ t5 = .int .i64 (t : Int) ∧ Below W2.heap.size W2 wr ∧ ∀ q, q < t → fl m C q ≤ fl m D q)
      case atStart => exact ⟨0, by omega, rfl, Below.refl _ _, fun q hq => absurd hq (Nat.not_lt_zero _)⟩
      case round =>
        rename Nat => g0
        obtain ⟨t, ht, rfl, hbw, hall⟩ := hrel
        have HT := Lib.hid ht
        have HBw := Lib.hid hbw
        have HAll := Lib.hid hall
        have HKw := Lib.hid (And.intro (HK.out.1.below hbw) (HK.out.2.below hbw))
        clear ht hbw hall c0 c1 c2 c3 c4 c5
        have c1 := HKw.out.1.cell1
        have c2 := HKw.out.1.lt
        have c4 := HKw.out.2.cell1
        have c5 := HKw.out.2.lt
        by_cases htm : t < m * m
        · obtain ⟨d1, d2⟩ := (HP.out.1.below HBw.out).at_ htm
          obtain ⟨d3, d4⟩ := (HP.out.2.below HBw.out).at_ htm
          have hti : (t : Int) < ((m * m : Nat) : Int) := by omega
          have HNo : Hid (fl m D t < fl m C t → leB m C D = false) := Lib.hid (leB_not h0 htm)
          have HYes : Hid (fl m C t ≤ fl m D t → ∀ q, q < t + 1 → fl m C q ≤ fl m D q) := Lib.hid fun hx q hq => by
            by_cases e : q = t
            · subst e; exact hx
            · exact HAll.out q (by omega)
          obtain ⟨x, hx⟩ : ∃ x, fl m C t = x := ⟨_, rfl⟩
          obtain ⟨y, hy⟩ : ∃ y, fl m D t = y := ⟨_, rfl⟩
          rw [hx] at d1 HNo HYes
          rw [hy] at d3 HNo HYes
          clear hx hy
          by_cases hxy : y < x
          · have hd : decide (y < x) = true := decide_eq_true hxy
            go_wp2_with fail
            go_quiet (fail)
            go_wp2_with fail
            go_ret
            exact ⟨by rw [HNo.out hxy]; rfl, HB.out.trans ((HBw.out.trans ((rdrewN_below _ _).mono HBw.out.size)).mono HB.out.size)⟩
          · have hd : decide (y < x) = false := decide_eq_false hxy
            go_wp2_with fail
            go_quiet (fail)
            go_wp2_with fail
            have ht := HT.out
            go_roundg (g0 - 1)
            case measure => omega
            case rel => exact ⟨t + 1, by omega, by simp, HBw.out.trans ((rdrewN_below _ _).mono HBw.out.size), HYes.out (by omega)⟩
        · have hte : t = m * m := by have := HT.out; omega
          subst hte
          go_wp2_with fail
          go_ret
          exact ⟨by rw [leB_all h0 HAll.out]; rfl, HB.out.trans (HBw.out.mono HB.out.size)⟩
end
end Go.Proofs.YtcbkffpmclainaaDoor
