/- The contracts of Right, the program's and the document's: any zone. -/
import Derived.Test.YtimckaphmfidhaaDoorRZText
import Derived.Test.YtimckaphmfidhaaDoorRTop
import Derived.Test.YtimckaphmfidhaaDoorGRef
import Derived.Test.YtimckaphmfidhaaDoorZVal
import Derived.Test.YtimckaphmfidhaaDoorZAlive
import Derived.Deep.RegionWith
import Derived.Deep.QuietTactic
namespace Go.Proofs.YtimckaphmfidhaaDoor
open Go.RowKit
attribute [local go_sem ↓] Go.wp_at_zero Go.wp_at_succ

/-- Are these numbers a right zone's bounds? -/
def rowB (m : Nat) (R : Option Mat) (len : Nat) (f : Nat → Int) : Bool := decide (len = rlen m R) && match R with
  | none => true
  | some C => (List.range (m * m)).all fun t => fl m C t == f t
/-- Is a zone right? -/
def rightO (N : Int) (len : Nat) (f : Nat → Int) : Bool := decide (N = ((zm N : Nat) : Int) - 1) && rowB (zm N) (zr N len f) len f
theorem rowB_all {m len : Nat} {C : Mat} {f : Nat → Int} (hl : len = m * m) (h : ∀ t, t < m * m → fl m C t = f t) : rowB m (some C) len f = true := by
  unfold rowB
  rw [decide_eq_true (show len = rlen m (some C) from hl), Bool.true_and, List.all_eq_true]
  intro t ht
  rw [h t (List.mem_range.1 ht)]; simp
theorem rowB_not {m len t : Nat} {C : Mat} {f : Nat → Int} (ht : t < m * m) (h : fl m C t ≠ f t) : rowB m (some C) len f = false := by
  unfold rowB
  rw [Bool.and_eq_false_iff]
  right
  rw [List.all_eq_false]
  exact ⟨t, List.mem_range.2 ht, by simpa using h⟩
theorem rowB_len {m len : Nat} {R : Option Mat} {f : Nat → Int} (h : len ≠ rlen m R) : rowB m R len f = false := by
  unfold rowB
  rw [decide_eq_false h, Bool.false_and]
theorem zargs_at {w : World} {N : Int} {A : Option Addr} {len cap : Nat} {f : Nat → Int} (h : ZArg w (zoneV N A len cap) N len f) (h0 : 0 < len) : ∃ b off, A = some ⟨b, off, none⟩ ∧ b < w.heap.size ∧ ∀ j, j < len → w.cell? ⟨b, off + j, none⟩ = some (.int .i64 (f j)) := by
  obtain ⟨A', c', e, -, -, hc⟩ := h
  simp only [zoneV, Value.agg.injEq, Array.mk.injEq, List.cons.injEq, Value.slice.injEq, and_true, true_and] at e
  obtain ⟨rfl, rfl⟩ := e
  exact hc h0
set_option maxRecDepth 100000 in
theorem lists_row {W : World} {N : Int} {base m len cap c2 : Nat} {R : Option Mat} {A A2 : Option Addr} {f : Nat → Int} (h7 : m ≤ 7) (ha : ZArg W (zoneV N A len cap) N len f) (hz : ZRes W base m R (zoneV ((m : Int) - 1) A2 (rlen m R) c2)) :
    Calls Tryd.prog 90 #[.slice A len cap, .slice A2 (rlen m R) c2] W (RetB W (rowB m R len f)) := by
  by_cases hl : len = rlen m R
  · cases R with
    | none =>
      have e : rowB m none len f = true := by unfold rowB; rw [decide_eq_true hl]; rfl
      rw [e]
      have hl0 : len = 0 := hl
      subst hl0
      exact lists_none _ _ _ _ W
    | some C =>
      have hmm : m * m ≤ 7 * 7 := Nat.mul_le_mul h7 h7
      have hl2 : len = m * m := hl
      obtain ⟨g, rfl, -, o⟩ := zres_some hz
      by_cases h0 : 0 < m * m
      · obtain ⟨b, off, rfl, hb, hc⟩ := zargs_at ha (by omega)
        have lf := flat_len m C
        have h := Any.slices_Equal_int Tryd.lays111 b off len cap g 0 (m * m) c2 ((List.range len).map f) (flatL m C) W (by simp) (by omega) (by omega) (by omega) (fun j hj => by
          rw [List.length_map, List.length_range] at hj
          rw [hc j hj, List.getD_eq_getElem?_getD, List.getElem?_map, List.getElem?_range hj]; rfl) (fun j hj => by
          rw [lf] at hj
          have hcj := o.cellAt j (by omega)
          rw [Nat.zero_add, hcj, List.getElem?_map]
          have : j < (flatL m C).length := by rw [lf]; exact hj
          rw [List.getElem?_eq_getElem this, List.getD_eq_getElem?_getD, List.getElem?_eq_getElem this]
          rfl)
        change Calls Tryd.prog 90 _ _ _ at h
        refine h.mono ?_
        rintro e w' ⟨rfl, q, rfl⟩
        refine ⟨?_, drewN_below W q⟩
        congr 2
        rw [List.take_of_length_le (by simp), List.take_of_length_le (by omega)]
        have key : (List.range len).map f = flatL m C ↔ rowB m (some C) len f = true := by
          constructor
          · intro hq
            refine rowB_all hl2 fun t ht => ?_
            have e1 := fl_at C ht
            rw [← hq, List.getElem?_map, List.getElem?_range (by omega)] at e1
            exact (Option.some.inj e1).symm
          · intro hq
            refine List.ext_getElem? fun t => ?_
            by_cases ht : t < m * m
            · rw [fl_at C ht, List.getElem?_map, List.getElem?_range (by omega)]
              by_cases e : fl m C t = f t
              · rw [e]; rfl
              · rw [rowB_not ht e] at hq; cases hq
            · rw [List.getElem?_eq_none (by simp; omega), List.getElem?_eq_none (by omega)]
        cases hr : rowB m (some C) len f
        · rw [beq_eq_false_iff_ne]
          intro hq
          rw [key.1 hq] at hr; cases hr
        · rw [beq_iff_eq]
          exact key.2 hr
      · obtain rfl : len = 0 := by omega
        have e : rowB m (some C) 0 f = true := rowB_all (by omega) (fun t ht => by omega)
        rw [e]
        have e2 : rlen m (some C) = 0 := by show m * m = 0; omega
        rw [e2]
        exact lists_none _ _ _ _ W
  · rw [rowB_len hl]
    exact lists_other _ _ _ _ _ _ W hl
set_option maxRecDepth 100000 in
set_option maxHeartbeats 1600000 in
theorem right_any {w : World} {N : Int} {A : Option Addr} {len cap : Nat} {f : Nat → Int} (ha : ZArg w (zoneV N A len cap) N len f) :
    Calls Tryd.prog 15 #[zoneV N A len cap] w (RetB w (rightO N len f)) := by
  obtain ⟨h0, h7⟩ := zm_bd N
  have HK : Hid (∀ W, Below w.heap.size w W → Calls Tryd.prog 11 #[zoneV N A len cap] W (RetC W (zm N) (zr N len f))) := Lib.hid fun W hb => close_z (ha.below hb)
  have HE : Hid (∀ W base A1 c1, Below w.heap.size w W → ZRes W base (zm N) (zr N len f) (zoneV (((zm N : Nat) : Int) - 1) A1 (rlen (zm N) (zr N len f)) c1) → Calls Tryd.prog 52 #[zoneV N A len cap, zoneV (((zm N : Nat) : Int) - 1) A1 (rlen (zm N) (zr N len f)) c1] W (RetB W (rightO N len f))) := Lib.hid fun W base A1 c1 hb hz => by
    by_cases e : N = ((zm N : Nat) : Int) - 1
    · have q : rightO N len f = rowB (zm N) (zr N len f) len f := by unfold rightO; rw [decide_eq_true e, Bool.true_and]
      rw [q]
      exact equal_if e (fun W1 hb1 => lists_row h7 ((ha.below hb).below hb1) (hz.below hb1))
    · have q : rightO N len f = false := by unfold rightO; rw [decide_eq_false e, Bool.false_and]
      rw [q]
      exact equal_else e
  have HD := Lib.hid ((Duo.new w 27 (.int .i64 N) (.slice A len cap)))
  have HB := Lib.hid (zboxed w (.cells #[.int .i64 N, .slice A len cap] 27))
  generalize rightO N len f = b at *
  generalize zr N len f = R at *
  generalize zm N = m at *
  clear ha
  go_enter Tryd.func15, Tryd.ntmps15
  go_wp2_with fail
  have k0 := HD.out.cell0
  have k1 := HD.out.cell1
  have HB0 := Lib.hid HB.out.drew
  have HD2 : Hid (Duo (w.alloc (.cells #[.int .i64 N, .slice A len cap] 27)).drew w.heap.size 27 (.int .i64 N) (.slice A len cap)) := Lib.hid HD.out
  go_region_with (first
    | (go_at_call 11; ((with_reducible refine (HK.out _ HB0.out).mono ?_); rintro e w1 ⟨A1, c1, rfl, hz1, hb1⟩); have HB1 := Lib.hid (HB0.out.trans (hb1.mono HB0.out.size)); have x1 := HD2.out.below hb1; have y0 := x1.cell0; have y1 := x1.cell1)
    | (go_at_call 52; have hb := HB1.out; ((with_reducible refine (HE.out _ _ _ _ hb hz1).mono ?_); rintro e w3 ⟨rfl, hb3⟩)))
  all_goals go_wp2_with fail
  all_goals go_ret
  all_goals exact ⟨rfl, HB1.out.trans (hb3.mono HB1.out.size)⟩
set_option maxRecDepth 100000 in
set_option maxHeartbeats 3200000 in
/-- The document's Same, of a right zone and any one of its N. -/
theorem rsame_row {w : World} {base m len cap c2 : Nat} {R : Option Mat} {A A2 : Option Addr} {f : Nat → Int} (hl : len ≤ 100) (hz : ZRes w base m R (zoneV ((m : Int) - 1) A2 (rlen m R) c2)) (ha : ZArg w (zoneV ((m : Int) - 1) A len cap) ((m : Int) - 1) len f) :
    Calls Tryd.prog 48 #[zoneV ((m : Int) - 1) A2 (rlen m R) c2, zoneV ((m : Int) - 1) A len cap] w (RetB w (rowB m R len f)) := by
  obtain ⟨W2, hW2, k0, k1, hb2, hs2⟩ := two_boxes_r w (.int .i64 ((m : Int) - 1)) (.slice A2 (rlen m R) c2) (.int .i64 ((m : Int) - 1)) (.slice A len cap)
  have c0 := k0.cell0
  have c1 := k0.cell1
  have c2' := k0.lt
  have c3 := k1.cell0
  have c4 := k1.cell1
  have c5 := k1.lt
  have HB := Lib.hid hb2
  by_cases hlen : len = rlen m R
  · have HK := Lib.hid (And.intro k0 k1)
    have HC : Hid (∀ W, Below W2.heap.size W2 W → ∀ t, t < rlen m R → (∃ g, A2 = some ⟨g, 0, none⟩ ∧ W.cell? ⟨g, t, none⟩ = some (.int .i64 (rfun m R t)) ∧ g < W.heap.size) ∧ ∃ b off, A = some ⟨b, off, none⟩ ∧ W.cell? ⟨b, off + t, none⟩ = some (.int .i64 (f t)) ∧ b < W.heap.size) := Lib.hid fun W hW t ht => by
      constructor
      · cases R with
        | none => exact absurd ht (Nat.not_lt_zero _)
        | some C =>
          obtain ⟨g, rfl, p, -⟩ := rp_of hz
          obtain ⟨q1, q2⟩ := ((p.below hb2).below hW).at_ ht
          exact ⟨g, rfl, q1, q2⟩
      · obtain ⟨b, off, rfl, q1, q2⟩ := zargs_at ((ha.below hb2).below hW) (show 0 < len by omega)
        exact ⟨b, off, rfl, q2 t (by omega), q1⟩
    have HYes : Hid ((∀ t, t < rlen m R → rfun m R t = f t) → rowB m R len f = true) := Lib.hid fun h => by
      cases R with
      | none => unfold rowB; rw [decide_eq_true hlen]; rfl
      | some C => exact rowB_all hlen h
    have HNo : Hid (∀ t, t < rlen m R → rfun m R t ≠ f t → rowB m R len f = false) := Lib.hid fun t ht h => by
      cases R with
      | none => exact absurd ht (Nat.not_lt_zero _)
      | some C => exact rowB_not ht h
    subst hlen
    obtain ⟨L, hL⟩ : ∃ L, rlen m R = L := ⟨_, rfl⟩
    rw [hL] at hW2 c1 c4 HC HYes HNo HK hl ⊢
    obtain ⟨r, hr⟩ : ∃ r, rowB m R L f = r := ⟨_, rfl⟩
    rw [hr] at HYes HNo ⊢
    have n1 : ((L : Int) != (L : Int)) = false := by simp
    clear hz ha k0 k1 hb2 hL hr
    go_enter Tryd.func48, Tryd.ntmps48
    go_wp2_with fail
    go_loopg [5] L (fun gk t5 wr => ∃ t : Nat, t + gk = L ∧ t5 = .int .i64 (t : Int) ∧ Below W2.heap.size W2 wr ∧ ∀ s, s < t → rfun m R s = f s)
    case atStart => exact ⟨0, by omega, rfl, Below.refl _ _, fun s hs => absurd hs (Nat.not_lt_zero _)⟩
    case round =>
      rename Nat => g0
      obtain ⟨t, ht, rfl, hbw, hall⟩ := hrel
      have HT := Lib.hid ht
      have HBw := Lib.hid hbw
      have HAll := Lib.hid hall
      have HKw := Lib.hid (And.intro (HK.out.1.below hbw) (HK.out.2.below hbw))
      clear ht hbw hall c0 c1 c2' c3 c4 c5
      have c0 := HKw.out.1.cell0
      have c1 := HKw.out.1.cell1
      have c2' := HKw.out.1.lt
      have c4 := HKw.out.2.cell1
      have c5 := HKw.out.2.lt
      by_cases htm : t < L
      · obtain ⟨⟨g, rfl, d1, d2⟩, b, off, rfl, d3, d4⟩ := HC.out _ HBw.out t htm
        have hti : (t : Int) < (L : Int) := by omega
        have hNo := HNo.out t htm
        have hStep : rfun m R t = f t → ∀ s, s < t + 1 → rfun m R s = f s := fun e s hs => by
          by_cases q : s = t
          · subst q; exact e
          · exact HAll.out s (by omega)
        have HNo2 := Lib.hid hNo
        have HSt := Lib.hid hStep
        obtain ⟨x, hx⟩ : ∃ x, rfun m R t = x := ⟨_, rfl⟩
        obtain ⟨y, hy⟩ : ∃ y, f t = y := ⟨_, rfl⟩
        rw [hx] at d1 HNo2 HSt
        rw [hy] at d3 HNo2 HSt
        clear hx hy hNo hStep
        by_cases hxy : x = y
        · subst hxy
          have HSt2 := Lib.hid (HSt.out rfl)
          go_wp2_with fail
          go_quiet (fail)
          go_wp2_with fail
          have ht := HT.out
          go_roundg (g0 - 1)
          case measure => omega
          case rel => exact ⟨t + 1, by omega, by simp, HBw.out.trans ((rdrewN_below _ _).mono HBw.out.size), HSt2.out⟩
        · have e1 : (x == y) = false := by simpa using hxy
          have e2 : (x != y) = true := by simpa using hxy
          have e3 : decide (x = y) = false := decide_eq_false hxy
          obtain rfl := HNo2.out hxy
          clear hxy
          go_wp2_with fail
          go_quiet (fail)
          go_wp2_with fail
          go_ret
          exact ⟨rfl, HB.out.trans ((HBw.out.trans ((rdrewN_below _ _).mono HBw.out.size)).mono HB.out.size)⟩
      · have hte : t = L := by have := HT.out; omega
        subst hte
        obtain rfl := HYes.out HAll.out
        go_wp2_with fail
        go_ret
        exact ⟨rfl, HB.out.trans (HBw.out.mono HB.out.size)⟩
  · rw [rowB_len hlen]
    have n1 : (((rlen m R : Nat) : Int) != (len : Int)) = true := by simp; omega
    have n2 : (((rlen m R : Nat) : Int) == (len : Int)) = false := by simp; omega
    have n3 : decide (rlen m R = len) = false := decide_eq_false (by omega)
    have n4 : decide (((rlen m R : Nat) : Int) = (len : Int)) = false := decide_eq_false (by omega)
    generalize rlen m R = L at *
    clear hz ha hlen k0 k1 hb2
    go_enter Tryd.func48, Tryd.ntmps48
    go_wp2_with fail
    go_ret
    exact ⟨rfl, HB.out⟩
set_option maxRecDepth 100000 in
set_option maxHeartbeats 1600000 in
theorem rright_in {w : World} {N : Int} {A : Option Addr} {len cap : Nat} {f : Nat → Int} (hm : mayB N = true) (hl : len ≤ 100) (ha : ZArg w (zoneV N A len cap) N len f) :
    Calls Tryd.prog 16 #[zoneV N A len cap] w (RetB w (rightO N len f)) := by
  obtain ⟨h0, h7⟩ := zm_bd N
  have e := zm_may hm
  have hN := (mayB_iff N).1 hm
  have hq : rightO N len f = rowB (zm N) (zr N len f) len f := by unfold rightO; rw [decide_eq_true e.symm, Bool.true_and]
  rw [hq]
  have d1 : decide (0 ≤ N) = true := decide_eq_true (by omega)
  have d2 : decide (N ≤ 6) = true := decide_eq_true (by omega)
  have HD := Lib.hid ((Duo.new w 24 (.int .i64 N) (.slice A len cap)))
  have HB := Lib.hid (zboxed w (.cells #[.int .i64 N, .slice A len cap] 24))
  have HCl : Hid (∀ W, Below w.heap.size w W → Calls Tryd.prog 19 #[zoneV N A len cap] W (RetC W (zm N) (zr N len f))) := Lib.hid fun W hb => rclean_z (ha.below hb)
  have HSm : Hid (∀ W base A1 c1, Below w.heap.size w W → ZRes W base (zm N) (zr N len f) (zoneV (((zm N : Nat) : Int) - 1) A1 (rlen (zm N) (zr N len f)) c1) → Calls Tryd.prog 48 #[zoneV (((zm N : Nat) : Int) - 1) A1 (rlen (zm N) (zr N len f)) c1, zoneV N A len cap] W (RetB W (rowB (zm N) (zr N len f) len f))) := Lib.hid fun W base A1 c1 hb hz => by
    have q := rsame_row hl hz (show ZArg W (zoneV (((zm N : Nat) : Int) - 1) A len cap) (((zm N : Nat) : Int) - 1) len f by rw [e]; exact ha.below hb)
    rw [e] at q
    rw [e]
    exact q
  generalize rowB (zm N) (zr N len f) len f = b at *
  generalize zr N len f = R at *
  generalize zm N = m at *
  clear ha hN e hq
  go_enter Tryd.func16, Tryd.ntmps16
  go_wp2_with fail
  have k0 := HD.out.cell0
  have k1 := HD.out.cell1
  have HB0 := Lib.hid HB.out.drew
  have HD2 : Hid (Duo (w.alloc (.cells #[.int .i64 N, .slice A len cap] 24)).drew w.heap.size 24 (.int .i64 N) (.slice A len cap)) := Lib.hid HD.out
  have K0 := Lib.hid (And.intro HD2.out.cell0 HD2.out.cell1)
  go_region_held3 (fun w' => w'.cell? ⟨w.heap.size, 0, none⟩ = some (.int .i64 N) ∧ w'.cell? ⟨w.heap.size, 1, none⟩ = some (.slice A len cap))
    (first | (with_reducible exact K0.out) | (with_reducible exact K1.out) | (with_reducible exact K2.out))
    (first
    | (go_at_call 19; have hb := HB0.out; ((with_reducible refine (HCl.out _ hb).mono ?_); rintro e w1 ⟨A1, c1, rfl, hz1, hb1⟩); have HB1 := Lib.hid (HB0.out.trans (hb1.mono HB0.out.size)); have x1 := HD2.out.below hb1; have K1 := Lib.hid (And.intro x1.cell0 x1.cell1); have D1 := Lib.hid x1; clear x1 hb)
    | (go_at_call 48; have hb := HB1.out; ((with_reducible refine (HSm.out _ _ _ _ hb hz1).mono ?_); rintro e w3 ⟨rfl, hb3⟩); have x3 := D1.out.below hb3; have K2 := Lib.hid (And.intro x3.cell0 x3.cell1); clear x3 hb))
  all_goals go_wp2_with fail
  all_goals go_ret
  all_goals exact ⟨rfl, HB1.out.trans (hb3.mono HB1.out.size)⟩
end Go.Proofs.YtimckaphmfidhaaDoor
