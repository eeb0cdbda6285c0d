/- Put together of: RSpan, RSet, LSame, ChangesBase, ChangesIn, ZArgsChanges. -/
import Derived.Test.YtlddelnbjihhgaaGreatDoorChangesRef
import Derived.Test.YtlddelnbjihhgaaGreatDoorSpRef
import Derived.Test.YtlddelnbjihhgaaGreatDoorSpanOf
import Derived.Test.YtlddelnbjihhgaaGreatDoorSet
import Derived.Test.YtlddelnbjihhgaaGreatDoorRHand
import Derived.Test.YtlddelnbjihhgaaGreatDoorSmall
import Derived.Test.YtlddelnbjihhgaaGreatDoorZAlive
import Derived.Test.YtlddelnbjihhgaaGreatDoorBack
import Derived.BigRegion
import Derived.Test.YtlddelnbjihhgaaGreatDoorZVal
/- The contract of the document's Span: any right zone, any number. -/
namespace Go.Proofs.YtlddelnbjihhgaaGreatDoor
open Go.RowKit
attribute [local go_sem ↓] Go.wp_at_zero Go.wp_at_succ

/-- The zone's box, and the span's. -/
def Rs (w W : World) (a a' b b' : Value) : Prop := Duo W w.heap.size 24 a a' ∧ Duo W (w.heap.size + 1) 26 b b' ∧ Below w.heap.size w W
theorem Rs.below {w W W1 : World} {a a' b b' : Value} (h : Rs w W a a' b b') (hb : Below W.heap.size W W1) : Rs w W1 a a' b b' := ⟨h.1.below hb, h.2.1.below hb, h.2.2.trans (hb.mono h.2.2.size)⟩
theorem Rs.drew {w W : World} {a a' b b' : Value} (h : Rs w W a a' b b') : Rs w W.drew a a' b b' := ⟨h.1, h.2.1, h.2.2.drew⟩
theorem rs_new (w : World) (a a' b b' : Value) : Rs w ((w.alloc (.cells #[a, a'] 24)).alloc (.cells #[b, b'] 26)) a a' b b' := by
  have h1 := Duo.new (w.alloc (.cells #[a, a'] 24)) 26 b b'
  simp only [World.size_alloc] at h1
  exact ⟨(Duo.new w _ _ _).alloc _, h1, ((Below.refl _ w).alloc (Nat.le_refl _) _).alloc (by simp) _⟩
theorem Rs.put {w W : World} {a a' b b' : Value} (h : Rs w W a a' b b') (x x' : Value) : Rs w ((W.setCell ⟨w.heap.size + 1, 0, none⟩ x).setCell ⟨w.heap.size + 1, 1, none⟩ x') a a' x x' :=
  ⟨(h.1.other (by simp) _).other (by simp) _, (h.2.1.set0 x).set1 x', (h.2.2.setCell (p := ⟨w.heap.size + 1, 0, none⟩) (by simp) _).setCell (p := ⟨w.heap.size + 1, 1, none⟩) (by simp) _⟩
theorem Rs.cells {w W : World} {a a' b b' : Value} (h : Rs w W a a' b b') : W.cell? ⟨w.heap.size, 0, none⟩ = some a ∧ W.cell? ⟨w.heap.size, 1, none⟩ = some a' := ⟨h.1.cell0, h.1.cell1⟩
section
variable {w : World} {m : Nat} {R : Option Mat} {A : Option Addr} {base c : Nat} {i : Int}
set_option maxRecDepth 100000 in
set_option maxHeartbeats 1600000 in
theorem rspan_none (N i : Int) (W : World) : Calls Tryz.prog 22 #[zoneV N A 0 c, .int .i64 i] W (RetSpan 1 0 W) := by
  go_enter Tryz.func22, Tryz.ntmps22
  go_wp2_with fail
  exact bodyPost_ret (v := .agg #[.int .i64 1, .int .i64 0]) (by simp [results, Tryz.results22, go_sem]) rfl ⟨rfl, (rs_new W _ _ _ _).2.2⟩
theorem unnamed {n i : Int} (h : namedB n i = false) : decide (i < 1) = true ∨ (decide (i < 1) = false ∧ decide (n < i) = true) := by
  simp only [namedB, Bool.and_eq_false_iff, decide_eq_false_iff_not, decide_eq_true_eq] at *
  omega
set_option maxRecDepth 100000 in
set_option maxHeartbeats 1600000 in
theorem rspan_out (h0 : 0 < m) (i : Int) (W : World) (h : namedB ((m : Int) - 1) i = false) : Calls Tryz.prog 22 #[zoneV ((m : Int) - 1) A (m * m) c, .int .i64 i] W (RetSpan 1 0 W) := by
  have hmm : 0 < m * m := Nat.mul_pos h0 h0
  have q0 : (((m * m : Nat) : Int) == 0) = false := by simp; omega
  have q1 : decide (m * m = 0) = false := decide_eq_false (by omega)
  have q3 : ((m : Int) * (m : Int) == 0) = false := by rw [← Int.natCast_mul]; exact q0
  have q4 : decide ((m : Int) * (m : Int) = 0) = false := by rw [← Int.natCast_mul]; exact decide_eq_false (by omega)
  clear hmm
  rcases unnamed h with d1 | ⟨d1, d2⟩ <;> clear h
  all_goals
    go_enter Tryz.func22, Tryz.ntmps22
    go_wp2_with fail
    exact bodyPost_ret (v := .agg #[.int .i64 1, .int .i64 0]) (by simp [results, Tryz.results22, go_sem]) rfl ⟨rfl, (rs_new W _ _ _ _).2.2⟩
set_option maxRecDepth 100000 in
set_option maxHeartbeats 1600000 in
theorem rspan_in {g i0 : Nat} {C : Mat} (h0 : 0 < m) (h7 : m ≤ 7) (h1 : 1 ≤ i0) (hi : i0 < m) (hC : Closed m C) (W : World) (hp : RP m g c C W) :
    Calls Tryz.prog 22 #[zoneV ((m : Int) - 1) (some ⟨g, 0, none⟩) (m * m) c, .int .i64 (i0 : Int)] W (RetSpan (ofL (-C 0 i0) (C i0 0)) (ofH (-C 0 i0) (C i0 0)) W) := by
  have b1 := hC.bd h0 hi
  have b2 := hC.bd hi h0
  have HA : Hid (∀ X, Below W.heap.size W X → Calls Tryz.prog 20 #[zoneV ((m : Int) - 1) (some ⟨g, 0, none⟩) (m * m) c, .int .i64 0, .int .i64 (i0 : Int)] X (RetI X (C 0 i0))) := Lib.hid (fun X hb => rget_in h7 (hp.below hb) h0 hi)
  have HC : Hid (∀ X, Below W.heap.size W X → Calls Tryz.prog 20 #[zoneV ((m : Int) - 1) (some ⟨g, 0, none⟩) (m * m) c, .int .i64 (i0 : Int), .int .i64 0] X (RetI X (C i0 0))) := Lib.hid (fun X hb => rget_in h7 (hp.below hb) hi h0)
  have G0 := Lib.hid (rs_new W (.int .i64 ((m : Int) - 1)) (.slice (some ⟨g, 0, none⟩) (m * m) c) (.int .i64 0) (.int .i64 0)).drew
  have K0 := Lib.hid G0.out.cells
  have HB0 := Lib.hid G0.out.2.2
  have hw : IntKind.i64.wrap (-C 0 i0) = -C 0 i0 := IntWalk.i64_in _ (by omega)
  have hmm : 0 < m * m := Nat.mul_pos h0 h0
  have q0 : (((m * m : Nat) : Int) == 0) = false := by simp; omega
  have q1 : decide (m * m = 0) = false := decide_eq_false (by omega)
  have q3 : ((m : Int) * (m : Int) == 0) = false := by rw [← Int.natCast_mul]; exact q0
  have q4 : decide ((m : Int) * (m : Int) = 0) = false := by rw [← Int.natCast_mul]; exact decide_eq_false (by omega)
  have d1 : decide ((i0 : Int) < 1) = false := decide_eq_false (by omega)
  have d2 : decide ((m : Int) - 1 < (i0 : Int)) = false := decide_eq_false (by omega)
  generalize C 0 i0 = x at *
  generalize C i0 0 = y at *
  clear hp hmm hC
  go_enter Tryz.func22, Tryz.ntmps22
  go_wp2_with fail
  go_region_held3 (fun w' => w'.cell? ⟨W.heap.size, 0, none⟩ = some (.int .i64 ((m : Int) - 1)) ∧ w'.cell? ⟨W.heap.size, 1, none⟩ = some (.slice (some ⟨g, 0, none⟩) (m * m) c))
    (first | (with_reducible exact K0.out) | (with_reducible exact K1.out) | (with_reducible exact K2.out) | (with_reducible exact K3.out) | (with_reducible exact K4.out))
    (first
      | (go_at_call 20; ((with_reducible refine (HA.out _ HB0.out).mono ?_); rintro e w1 ⟨rfl, hb1⟩); have G1 := Lib.hid (G0.out.below hb1); have K1 := Lib.hid G1.out.cells; have HB1 := Lib.hid G1.out.2.2)
      | (go_at_call 20; ((with_reducible refine (HC.out _ HB1.out).mono ?_); rintro e w2 ⟨rfl, hb2⟩); have G2 := Lib.hid (G1.out.below hb2); have K2 := Lib.hid G2.out.cells; have HB2 := Lib.hid G2.out.2.2)
      | (go_at_call 49; ((with_reducible refine (Sp.rof_any _ _ _).mono ?_); rintro e w3 ⟨rfl, hb3⟩); have G3 := Lib.hid (G2.out.below hb3); have K3 := Lib.hid G3.out.cells; have f0 := G3.out.2.1.cell0; have f1 := G3.out.2.1.cell1; have f2 := G3.out.2.1.frozen0; have f3 := G3.out.2.1.frozen1; have G4 := Lib.hid (G3.out.put (.int .i64 (ofL (-x) y)) (.int .i64 (ofH (-x) y))); have K4 := Lib.hid G4.out.cells))
  all_goals go_wp2_with fail
  all_goals exact bodyPost_ret (v := .agg #[.int .i64 (ofL (-x) y), .int .i64 (ofH (-x) y)]) (by simp [results, Tryz.results22, go_sem, G4.out.2.1.cell0, G4.out.2.1.cell1]) rfl ⟨rfl, G4.out.2.2⟩
theorem rspan_any (h0 : 0 < m) (h7 : m ≤ 7) (hz : ZRes w base m R (zoneV ((m : Int) - 1) A (rlen m R) c)) :
    Calls Tryz.prog 22 #[zoneV ((m : Int) - 1) A (rlen m R) c, .int .i64 i] w (RetSpan (spO m R i).1 (spO m R i).2 w) := by
  cases R with
  | none => exact rspan_none _ i w
  | some C =>
    cases k : namedB ((m : Int) - 1) i
    · rw [show spO m (some C) i = (1, 0) from if_neg (by rw [k]; decide)]
      exact rspan_out h0 i w k
    · rw [show spO m (some C) i = (ofL (-C 0 i.toNat) (C i.toNat 0), ofH (-C 0 i.toNat) (C i.toNat 0)) from if_pos k]
      obtain ⟨i0, rfl, h1, h2⟩ := named_nat k
      rw [Int.toNat_natCast]
      obtain ⟨g, rfl, hp, hC⟩ := rp_of hz
      exact rspan_in h0 h7 h1 h2 hC w hp
end
end Go.Proofs.YtlddelnbjihhgaaGreatDoor

/- The contract of the document's Set: any right zone, any number, any span. -/
namespace Go.Proofs.YtlddelnbjihhgaaGreatDoor
open Go.RowKit
attribute [local go_sem ↓] Go.wp_at_zero Go.wp_at_succ

/-- The boxes of the zone, of the span, of the result. -/
def Ts (w W : World) (a a' l h : Value) : Prop := Duo W w.heap.size 24 a a' ∧ Duo W (w.heap.size + 1) 26 l h ∧ Duo W (w.heap.size + 1 + 1) 24 (.int .i64 0) (.slice none 0 0) ∧ Below w.heap.size w W
theorem Ts.below {w W W1 : World} {a a' l h : Value} (x : Ts w W a a' l h) (hb : Below W.heap.size W W1) : Ts w W1 a a' l h := ⟨x.1.below hb, x.2.1.below hb, x.2.2.1.below hb, x.2.2.2.trans (hb.mono x.2.2.2.size)⟩
theorem Ts.drew {w W : World} {a a' l h : Value} (x : Ts w W a a' l h) : Ts w W.drew a a' l h := ⟨x.1, x.2.1, x.2.2.1, x.2.2.2.drew⟩
theorem Ts.puts {w W : World} {a a' l h : Value} (x : Ts w W a a' l h) (u u' : Value) : Ts w ((W.setCell ⟨w.heap.size + 1, 0, none⟩ u).setCell ⟨w.heap.size + 1, 1, none⟩ u') a a' u u' :=
  ⟨(x.1.other (by simp) _).other (by simp) _, (x.2.1.set0 u).set1 u', (x.2.2.1.other (by simp) _).other (by simp) _, (x.2.2.2.setCell (p := ⟨w.heap.size + 1, 0, none⟩) (by simp) _).setCell (p := ⟨w.heap.size + 1, 1, none⟩) (by simp) _⟩
theorem ts_new (w : World) (a a' l h : Value) : Ts w (((w.alloc (.cells #[a, a'] 24)).alloc (.cells #[l, h] 26)).alloc (.cells #[.int .i64 0, .slice none 0 0] 24)) a a' l h := by
  have h1 := Duo.new (w.alloc (.cells #[a, a'] 24)) 26 l h
  have h2 := Duo.new ((w.alloc (.cells #[a, a'] 24)).alloc (.cells #[l, h] 26)) 24 (.int .i64 0) (.slice none 0 0)
  simp only [World.size_alloc] at h1 h2
  exact ⟨((Duo.new w _ _ _).alloc _).alloc _, h1.alloc _, h2, (((Below.refl _ w).alloc (Nat.le_refl _) _).alloc (by simp) _).alloc (by simp <;> omega) _⟩
theorem Ts.scells {w W : World} {a a' l h : Value} (x : Ts w W a a' l h) : W.cell? ⟨w.heap.size + 1, 0, none⟩ = some l ∧ W.cell? ⟨w.heap.size + 1, 1, none⟩ = some h := ⟨x.2.1.cell0, x.2.1.cell1⟩
theorem Ts.cells {w W : World} {a a' l h : Value} (x : Ts w W a a' l h) : (W.cell? ⟨w.heap.size, 0, none⟩ = some a ∧ W.cell? ⟨w.heap.size, 1, none⟩ = some a') ∧ W.cell? ⟨w.heap.size + 1, 0, none⟩ = some l ∧ W.cell? ⟨w.heap.size + 1, 1, none⟩ = some h := ⟨⟨x.1.cell0, x.1.cell1⟩, x.2.1.cell0, x.2.1.cell1⟩
section
variable {w : World} {m : Nat} {R : Option Mat} {A : Option Addr} {base c : Nat} {i l h : Int}
theorem ts_ret {W : World} {a a' u u' : Value} {B : Option Addr} {c1 b1 : Nat} {S : Option Mat} {fn : Func} {t : Tmp} {ac : Act} (hf : fn.results = #[.cell t 24]) (hd : ac.defers = []) (ht : ac.tmps.getD t undef = .pointer (some ⟨w.heap.size + 1 + 1, 0, none⟩))
    (x : Ts w W a a' u u') (hz : ZRes W b1 m S (zoneV ((m : Int) - 1) B (rlen m S) c1)) : bodyPost Tryz.prog fn (RetY w m S) .ret ac ((W.setCell ⟨w.heap.size + 1 + 1, 0, none⟩ (.int .i64 ((m : Int) - 1))).setCell ⟨w.heap.size + 1 + 1, 1, none⟩ (.slice B (rlen m S) c1)) := by
  have hp := res_put x.2.2.1 x.2.2.2 (by omega) (.int .i64 ((m : Int) - 1)) (.slice B (rlen m S) c1)
  have hz2 := zres_put x.2.2.1 hz (.int .i64 ((m : Int) - 1)) (.slice B (rlen m S) c1)
  have r0 := hp.1.cell0
  have r1 := hp.1.cell1
  simp at ht
  exact bodyPost_ret (v := .agg #[.int .i64 ((m : Int) - 1), .slice B (rlen m S) c1]) (by simp [results, hf, go_sem, ht, r0, r1]) hd ⟨B, c1, rfl, hz2.lower (Nat.zero_le _), hp.2⟩
set_option maxRecDepth 100000 in
set_option maxHeartbeats 1600000 in
theorem rset_out (h0 : 0 < m) (hz : ZRes w base m R (zoneV ((m : Int) - 1) A (rlen m R) c)) (hi : isO m R i = false) :
    Calls Tryz.prog 14 #[zoneV ((m : Int) - 1) A (rlen m R) c, .int .i64 i, .agg #[.int .i64 l, .int .i64 h]] w (RetY w m R) := by
  have Y := Lib.hid (ts_new w (.int .i64 ((m : Int) - 1)) (.slice A (rlen m R) c) (.int .i64 l) (.int .i64 h))
  have HZ := Lib.hid (hz.below Y.out.2.2.2)
  have HI : Hid (∀ W, Calls Tryz.prog 46 #[zoneV ((m : Int) - 1) A (rlen m R) c, .int .i64 i] W (RetB W false)) := Lib.hid fun W => by
    rw [← hi]
    exact ris_any h0 i W
  obtain ⟨L, hL⟩ : ∃ L, rlen m R = L := ⟨_, rfl⟩
  have HL := Lib.hid hL
  rw [hL] at Y HI
  clear hz hi
  rw [hL]
  clear hL
  go_enter Tryz.func14, Tryz.ntmps14
  go_wp2_with (go_at_call 46; ((with_reducible refine (HI.out _).mono ?_); rintro e w1 ⟨rfl, hb1⟩); have Y1 := Lib.hid (Y.out.below hb1); have HZ1 := Lib.hid (HZ.out.below (by have := HL.out; subst this; exact hb1)); have x0 := Y1.out.1.cell0; have x1 := Y1.out.1.cell1; have x2 := Y1.out.2.2.1.cell0; have x3 := Y1.out.2.2.1.cell1; have x4 := Y1.out.2.2.1.frozen0; have x5 := Y1.out.2.2.1.frozen1; have x6 := Y1.out.2.2.1.lt; clear hb1)
  have := HL.out
  subst this
  exact ts_ret rfl rfl rfl Y1.out HZ1.out
set_option maxRecDepth 100000 in
set_option maxHeartbeats 6400000 in
theorem rset_in {g i0 : Nat} {C : Mat} (h0 : 0 < m) (h7 : m ≤ 7) (h1 : 1 ≤ i0) (hi : i0 < m) (hC : Closed m C) (hp : RP m g c C w) :
    Calls Tryz.prog 14 #[zoneV ((m : Int) - 1) (some ⟨g, 0, none⟩) (m * m) c, .int .i64 (i0 : Int), .agg #[.int .i64 l, .int .i64 h]] w
      (RetY w m (setR m (setM (lev (fgt C i0) m) i0 (meetL l h (-1152921504606846976) 1152921504606846976) (meetH l h (-1152921504606846976) 1152921504606846976)))) := by
  have hms := meet_bd l h (-1152921504606846976) 1152921504606846976
  have hmn : noneS (meetL l h (-1152921504606846976) 1152921504606846976) (meetH l h (-1152921504606846976) 1152921504606846976) = true → meetH l h (-1152921504606846976) 1152921504606846976 < meetL l h (-1152921504606846976) 1152921504606846976 := fun e => by
    have e1 := noneS_yes e
    have e2 := tk_forms l h
    have e3 := tk_forms (-1152921504606846976) 1152921504606846976
    rcases meet_cases l h (-1152921504606846976) 1152921504606846976 with ⟨q1, q2, q3⟩ | ⟨q1, q2, q3⟩
    · by_cases hlt : meetH l h (-1152921504606846976) 1152921504606846976 < meetL l h (-1152921504606846976) 1152921504606846976
      · exact hlt
      · exfalso
        have hr := (rightS_iff (meetL l h (-1152921504606846976) 1152921504606846976) (meetH l h (-1152921504606846976) 1152921504606846976)).2 (.inr ⟨by omega, by omega, by omega⟩)
        have ht := tk_of_right hr
        omega
    · omega
  have HMt : Hid (∀ W, Calls Tryz.prog 48 #[.agg #[.int .i64 l, .int .i64 h], .agg #[.int .i64 (-1152921504606846976), .int .i64 1152921504606846976]] W (Sp.RetSpan (meetL l h (-1152921504606846976) 1152921504606846976) (meetH l h (-1152921504606846976) 1152921504606846976) W)) := Lib.hid fun W => Sp.rmeet_any _ _ _ _ W
  have HOf : Hid (∀ W, Calls Tryz.prog 49 #[.int .i64 (-1152921504606846976), .int .i64 1152921504606846976] W (Sp.RetSpan (-1152921504606846976) 1152921504606846976 W)) := Lib.hid fun W => by
    have q := Sp.rof_any (-1152921504606846976) 1152921504606846976 W
    rw [show ofL (-1152921504606846976) 1152921504606846976 = -1152921504606846976 from by decide, show ofH (-1152921504606846976) 1152921504606846976 = 1152921504606846976 from by decide] at q
    exact q
  generalize meetL l h (-1152921504606846976) 1152921504606846976 = L at *
  generalize meetH l h (-1152921504606846976) 1152921504606846976 = H at *
  have HI : Hid (∀ W, Calls Tryz.prog 46 #[zoneV ((m : Int) - 1) (some ⟨g, 0, none⟩) (m * m) c, .int .i64 (i0 : Int)] W (RetB W true)) := Lib.hid fun W => by
    have q := ris_any (A := some ⟨g, 0, none⟩) (c := c) (R := some C) h0 (i0 : Int) W
    rw [show isO m (some C) (i0 : Int) = true from by show namedB _ _ = true; simp [namedB]; omega] at q
    exact q
  have hF := lev_closed (ls_alive hC h0 hi)
  have HLo : Hid (∀ W, Below w.heap.size w W → Calls Tryz.prog 47 #[zoneV ((m : Int) - 1) (some ⟨g, 0, none⟩) (m * m) c, .int .i64 (i0 : Int)] W (RetC W m (some (lev (lsM C i0) m)))) := Lib.hid fun W hb => by
    have q := rloose_any h0 h7 hi hC (hr := ⟨(hp.below hb).row⟩)
    rw [setR_yes (ls_alive hC h0 hi)] at q
    exact q
  have HBt := Lib.hid (fun W => rbottom_n h0 h7 W)
  have HEnd : Hid (SameO m (setR m (setM (lev (lsM C i0) m) i0 L H)) (setR m (setM (lev (fgt C i0) m) i0 L H))) := Lib.hid (set_doc hC h0 hi)
  have HNo : Hid (H < L → setR m (setM (lev (fgt C i0) m) i0 L H) = none) := Lib.hid fun q => set_none_of h0 hi q
  have HMs := Lib.hid hms
  have HMn := Lib.hid hmn
  generalize setR m (setM (lev (fgt C i0) m) i0 L H) = S at *
  generalize lev (lsM C i0) m = F at *
  have HW1 : Hid (∀ W b g5 c5, RZ m g5 c5 F b W → Calls Tryz.prog 52 #[zoneV ((m : Int) - 1) (some ⟨g5, 0, none⟩) (m * m) c5, .int .i64 (i0 : Int), .int .i64 0, .int .i64 H] W (RetRZ W m (grd F i0 0 H))) := Lib.hid fun W b g5 c5 q => rwith_any h0 h7 hi h0 q
  have HW2 : Hid (∀ W b g5 c5, RZ m g5 c5 (grd F i0 0 H) b W → Calls Tryz.prog 52 #[zoneV ((m : Int) - 1) (some ⟨g5, 0, none⟩) (m * m) c5, .int .i64 0, .int .i64 (i0 : Int), .int .i64 (-L)] W (RetRZ W m (setM F i0 L H))) := Lib.hid fun W b g5 c5 q => rwith_any h0 h7 h0 hi q
  have HCl : Hid (∀ W b g5 c5, RZ m g5 c5 (setM F i0 L H) b W → Calls Tryz.prog 33 #[zoneV ((m : Int) - 1) (some ⟨g5, 0, none⟩) (m * m) c5] W (RetC W m S)) := Lib.hid fun W b g5 c5 q =>
    (rclose_rz h0 h7 (grd_bd (grd_bd (closed_bd hF) (by omega)) (by omega)) q).mono fun _ _ hr => retC_congr hr HEnd.out
  have HG : Hid (∀ W b A2 c2, ZRes W b m (some F) (zoneV ((m : Int) - 1) A2 (m * m) c2) → ∃ g2, A2 = some ⟨g2, 0, none⟩ ∧ RZ m g2 c2 F 0 W) := Lib.hid fun W b A2 c2 q => by
    obtain ⟨g2, e, p, -⟩ := rp_of q
    exact ⟨g2, e, ⟨p.row⟩⟩
  have hwT : IntKind.i64.wrap (-1152921504606846976) = -1152921504606846976 := IntWalk.i64_in _ (by omega)
  have hwL : IntKind.i64.wrap (-L) = -L := IntWalk.i64_in _ (by omega)
  have T := Lib.hid (ts_new w (.int .i64 ((m : Int) - 1)) (.slice (some ⟨g, 0, none⟩) (m * m) c) (.int .i64 l) (.int .i64 h))
  clear hms hmn hC hp hF
  go_enter Tryz.func14, Tryz.ntmps14
  go_wp2_with (go_at_call 46; ((with_reducible refine (HI.out _).mono ?_); rintro e w1 ⟨rfl, hb1⟩); have T1 := Lib.hid (T.out.below hb1); have x0 := T1.out.1.cell0; have x1 := T1.out.1.cell1; have x6 := T1.out.1.lt; clear hb1)
  have G0 := Lib.hid T1.out.drew
  have y0 := G0.out.2.1.cell0
  have y1 := G0.out.2.1.cell1
  have y2 := G0.out.2.1.lt
  go_cut [] (fun wx => Ts w wx (.int .i64 ((m : Int) - 1)) (.slice (some ⟨g, 0, none⟩) (m * m) c) (.int .i64 L) (.int .i64 H))
  case first =>
    go_region_with (first
        | (go_at_call 50; ((with_reducible refine (rtop_any _).mono ?_); rintro e w2 ⟨rfl, rfl⟩))
        | (go_at_call 49; ((with_reducible refine (HOf.out _).mono ?_); rintro e w3 ⟨rfl, hb3⟩); have G1 := Lib.hid (G0.out.below hb3); have z0 := G1.out.2.1.cell0; have z1 := G1.out.2.1.cell1; have z2 := G1.out.2.1.lt; clear hb3)
        | (go_at_call 48; ((with_reducible refine (HMt.out _).mono ?_); rintro e w4 ⟨rfl, hb4⟩); have G2 := Lib.hid (G1.out.below hb4); have f0 := G2.out.2.1.cell0; have f1 := G2.out.2.1.cell1; have f2 := G2.out.2.1.frozen0; have f3 := G2.out.2.1.frozen1; have f4 := G2.out.2.1.lt; have G3 := Lib.hid (G2.out.puts (.int .i64 L) (.int .i64 H)); clear hb4))
    all_goals go_wp2_with fail
    all_goals go_meet
    all_goals exact G3.out
  case rest =>
    have T2 := Lib.hid hcut
    clear hcut G0 T1 y0 y1 y2 x0 x1 x6
    have y0 := T2.out.2.1.cell0
    have y1 := T2.out.2.1.cell1
    have y2 := T2.out.2.1.lt
    have y3 := T2.out.1.cell0
    have y4 := T2.out.1.lt
    cases hN : noneS L H with
    | true =>
      have HN : Hid (∀ W, Calls Tryz.prog 51 #[.agg #[.int .i64 L, .int .i64 H]] W (Sp.RetBool true W)) := Lib.hid fun W => by
        rw [← hN]
        exact Sp.rnone_any L H W
      have hS := HNo.out (HMn.out hN)
      clear hN
      subst hS
      go_wp2_with (first
        | (go_at_call 51; ((with_reducible refine (HN.out _).mono ?_); rintro e w5 ⟨rfl, hb5⟩); have T3 := Lib.hid (T2.out.below hb5); have z3 := T3.out.1.cell0; have z4 := T3.out.1.lt; clear hb5)
        | (go_at_call 24; ((with_reducible refine (HBt.out _).mono ?_); rintro e w6 ⟨rfl, hb6⟩); have T4 := Lib.hid (T3.out.below hb6); have f0 := T4.out.2.2.1.cell0; have f1 := T4.out.2.2.1.cell1; have f2 := T4.out.2.2.1.frozen0; have f3 := T4.out.2.2.1.frozen1; have f4 := T4.out.2.2.1.lt; clear hb6))
      exact ts_ret (m := m) (S := none) (b1 := 0) rfl rfl rfl T4.out rfl
    | false =>
      have HN : Hid (∀ W, Calls Tryz.prog 51 #[.agg #[.int .i64 L, .int .i64 H]] W (Sp.RetBool false W)) := Lib.hid fun W => by
        rw [← hN]
        exact Sp.rnone_any L H W
      clear hN
      go_wp2_with (first
        | (go_at_call 51; ((with_reducible refine (HN.out _).mono ?_); rintro e w5 ⟨rfl, hb5⟩); have T3 := Lib.hid (T2.out.below hb5); clear hb5))
      have G0 := Lib.hid T3.out.drew
      clear y0 y1 y2 y3 y4
      have y0 := G0.out.1.cell0
      have y1 := G0.out.1.cell1
      have y2 := G0.out.1.lt
      have y3 := G0.out.2.1.cell0
      have y4 := G0.out.2.1.cell1
      have y5 := G0.out.2.1.lt
      have e1 : rlen m (some F) = m * m := rfl
      go_region_with (first
        | (go_at_call 47; have hy := G0.out.2.2.2; ((with_reducible refine (HLo.out _ hy).mono ?_); rintro e w6 ⟨A6, c6, rfl, hz6, hb6⟩); have G1 := Lib.hid (G0.out.below hb6); obtain ⟨g6, rfl, hr6⟩ := HG.out _ _ _ _ hz6; have R6 := Lib.hid hr6; have z3 := G1.out.2.1.cell0; have z4 := G1.out.2.1.cell1; have z5 := G1.out.2.1.lt; clear hb6 hz6 hr6)
        | (go_at_call 52; have hr6 := R6.out; ((with_reducible refine (HW1.out _ _ _ _ hr6).mono ?_); rintro e w7 ⟨g7, c7, rfl, hr7, hb7⟩); have G2 := Lib.hid (G1.out.below hb7); have R7 := Lib.hid hr7; have u3 := G2.out.2.1.cell0; have u4 := G2.out.2.1.cell1; have u5 := G2.out.2.1.lt; clear hb7 hr7)
        | (go_at_call 52; have hr7 := R7.out; ((with_reducible refine (HW2.out _ _ _ _ hr7).mono ?_); rintro e w8 ⟨g8, c8, rfl, hr8, hb8⟩); have G3 := Lib.hid (G2.out.below hb8); have R8 := Lib.hid hr8; clear hb8 hr8)
        | (go_at_call 33; have hr8 := R8.out; ((with_reducible refine (HCl.out _ _ _ _ hr8).mono ?_); rintro e w9 ⟨A9, c9, rfl, hz9, hb9⟩); have G4 := Lib.hid (G3.out.below hb9); have Z9 := Lib.hid hz9; have f0 := G4.out.2.2.1.cell0; have f1 := G4.out.2.2.1.cell1; have f2 := G4.out.2.2.1.frozen0; have f3 := G4.out.2.2.1.frozen1; have f4 := G4.out.2.2.1.lt; clear hb9 hz9))
      all_goals go_wp2_with fail
      all_goals exact ts_ret rfl rfl rfl G4.out Z9.out
theorem rset_any (h0 : 0 < m) (h7 : m ≤ 7) (hz : ZRes w base m R (zoneV ((m : Int) - 1) A (rlen m R) c)) :
    Calls Tryz.prog 14 #[zoneV ((m : Int) - 1) A (rlen m R) c, .int .i64 i, .agg #[.int .i64 l, .int .i64 h]] w (RetY w m (setO m R i l h)) := by
  cases R with
  | none => exact rset_out h0 hz rfl
  | some C =>
    cases k : namedB ((m : Int) - 1) i
    · rw [show setO m (some C) i l h = some C from if_neg (by rw [k]; decide)]
      exact rset_out h0 hz k
    · rw [show setO m (some C) i l h = _ from if_pos k]
      obtain ⟨i0, rfl, h1, h2⟩ := named_nat k
      rw [Int.toNat_natCast]
      obtain ⟨g, rfl, hp, hC⟩ := rp_of hz
      exact rset_in h0 h7 h1 h2 hC hp
end
end Go.Proofs.YtlddelnbjihhgaaGreatDoor

/- The contract of the law's same, of two that are the same (its place in RJoin, for seats without Join). -/
namespace Go.Proofs.YtlddelnbjihhgaaGreatDoor
open Go.RowKit
attribute [local go_sem ↓] Go.wp_at_zero Go.wp_at_succ

section
variable {w : World} {m : Nat} {A B : Option Addr} {ba bb ca cb : Nat}
set_option maxRecDepth 100000 in
set_option maxHeartbeats 1600000 in
/-- The law's same, of two that are the same. -/
theorem lsame_any {R : Option Mat} (h7 : m ≤ 7) (ha : ZRes w ba m R (zoneV ((m : Int) - 1) A (rlen m R) ca)) (hb : ZRes w bb m R (zoneV ((m : Int) - 1) B (rlen m R) cb)) :
    Calls Tryz.prog 17 #[zoneV ((m : Int) - 1) A (rlen m R) ca, zoneV ((m : Int) - 1) B (rlen m R) cb] w (RetB w true) := by
  have b1 := zboxed w (.cells #[.int .i64 ((m : Int) - 1), .slice A (rlen m R) ca] 32)
  have b2 := b1.trans ((zboxed (w.alloc (.cells #[.int .i64 ((m : Int) - 1), .slice A (rlen m R) ca] 32)) (.cells #[.int .i64 ((m : Int) - 1), .slice B (rlen m R) cb] 24)).mono b1.size)
  have HB := Lib.hid b2
  have HS := Lib.hid (rsame_true h7 (ha.below b2) (hb.below b2))
  clear ha hb b1 b2
  obtain ⟨l, hl⟩ : ∃ l, rlen m R = l := ⟨_, rfl⟩
  rw [hl] at HB HS ⊢
  clear hl
  go_enter Tryz.func17, Tryz.ntmps17
  go_wp2_with (go_at_call 54; ((with_reducible refine HS.out.mono ?_); rintro e w6 ⟨rfl, hb6⟩); have HB6 := Lib.hid (HB.out.trans (hb6.mono HB.out.size)); clear hb6)
  go_ret
  exact ⟨rfl, HB6.out⟩
end
end Go.Proofs.YtlddelnbjihhgaaGreatDoor

/- ZoneChanges: what stands while it goes. -/
namespace Go.Proofs.YtlddelnbjihhgaaGreatDoor
open Go.RowKit
attribute [local go_sem ↓] Go.wp_at_zero Go.wp_at_succ

/-- The box of the change. -/
def Cb (W : World) (B : Nat) (i j c l h : Int) : Prop := W.heap[B]? = some (.cells #[.int .i64 i, .int .i64 j, .int .i64 c, .int .i64 l, .int .i64 h] 28 (0, 0))
theorem Cb.lt {W : World} {B : Nat} {i j c l h : Int} (x : Cb W B i j c l h) : B < W.heap.size := (Array.getElem?_eq_some_iff.1 x).1
theorem Cb.below {W W' : World} {B : Nat} {i j c l h : Int} (x : Cb W B i j c l h) (hb : Below W.heap.size W W') : Cb W' B i j c l h := (hb.block B x.lt).trans x
theorem Cb.cells {W : World} {B : Nat} {i j c l h : Int} (x : Cb W B i j c l h) : W.cell? ⟨B, 0, none⟩ = some (.int .i64 i) ∧ W.cell? ⟨B, 1, none⟩ = some (.int .i64 j) ∧ W.cell? ⟨B, 2, none⟩ = some (.int .i64 c) ∧ W.cell? ⟨B, 3, none⟩ = some (.int .i64 l) ∧ W.cell? ⟨B, 4, none⟩ = some (.int .i64 h) := by
  refine ⟨?_, ?_, ?_, ?_, ?_⟩ <;> simp [World.cell?, show W.heap[B]? = _ from x]
theorem Cb.new (W : World) (i j c l h : Int) : Cb (W.alloc (.cells #[.int .i64 i, .int .i64 j, .int .i64 c, .int .i64 l, .int .i64 h] 28)) W.heap.size i j c l h := World.alloc_heap_new W _
/-- Both boxes. -/
structure MV (w : World) (N : Int) (A : Option Addr) (ml cap : Nat) (I J C L H : Int) (W : World) : Prop where
  low : Below w.heap.size w W
  zb : Duo W w.heap.size 24 (.int .i64 N) (.slice A ml cap)
  cb : Cb W (w.heap.size + 1) I J C L H
section
variable {w W W1 : World} {N : Int} {A : Option Addr} {ml cap : Nat} {I J C L H : Int}
theorem MV.below (h : MV w N A ml cap I J C L H W) (hb : Below W.heap.size W W1) : MV w N A ml cap I J C L H W1 := ⟨h.low.trans (hb.mono h.low.size), h.zb.below hb, h.cb.below hb⟩
theorem mv_new (w : World) (N : Int) (A : Option Addr) (ml cap : Nat) (I J C L H : Int) : MV w N A ml cap I J C L H ((w.alloc (.cells #[.int .i64 N, .slice A ml cap] 24)).alloc (.cells #[.int .i64 I, .int .i64 J, .int .i64 C, .int .i64 L, .int .i64 H] 28)) := by
  have h1 := Cb.new (w.alloc (.cells #[.int .i64 N, .slice A ml cap] 24)) I J C L H
  simp only [World.size_alloc] at h1
  exact ⟨((Below.refl _ w).alloc (Nat.le_refl _) _).alloc (by simp) _, (Duo.new w _ _ _).alloc _, h1⟩
/-- What is loaded. -/
theorem MV.s (h : MV w N A ml cap I J C L H W) : (W.cell? ⟨w.heap.size, 0, none⟩ = some (.int .i64 N) ∧ W.cell? ⟨w.heap.size, 1, none⟩ = some (.slice A ml cap)) ∧ W.cell? ⟨w.heap.size + 1, 0, none⟩ = some (.int .i64 I) ∧ W.cell? ⟨w.heap.size + 1, 1, none⟩ = some (.int .i64 J) ∧ W.cell? ⟨w.heap.size + 1, 2, none⟩ = some (.int .i64 C) ∧ W.cell? ⟨w.heap.size + 1, 3, none⟩ = some (.int .i64 L) ∧ W.cell? ⟨w.heap.size + 1, 4, none⟩ = some (.int .i64 H) := ⟨⟨h.zb.cell0, h.zb.cell1⟩, h.cb.cells⟩
theorem MV.sz (h : MV w N A ml cap I J C L H W) : w.heap.size < W.heap.size ∧ w.heap.size + 1 < W.heap.size := ⟨h.zb.lt, h.cb.lt⟩
end
theorem sameO_self (m : Nat) (R : Option Mat) : sameO m m R R = true := by
  cases R with
  | none => exact decide_eq_true rfl
  | some C => show (decide (m = m) && (flatL m C == flatL m C)) = true; simp
/-- Of four. -/
def pick4 {α : Type} (a b c d : α) : Nat → α
  | 0 => a
  | 1 => b
  | 2 => c
  | _ => d
/-- A row of four right zones. -/
structure ZL (W : World) (g m : Nat) (S : Nat → Option Mat) (B : Nat → Option Addr) (k : Nat → Nat) : Prop where
  lt : g < W.heap.size
  c0 : ∀ i, i < 4 → W.cell? ⟨g, 2 * i, none⟩ = some (.int .i64 ((m : Int) - 1)) ∧ W.cell? ⟨g, 2 * i + 1, none⟩ = some (.slice (B i) (rlen m (S i)) (k i))
  z : ∀ i, i < 4 → ZRes W 0 m (S i) (zoneV ((m : Int) - 1) (B i) (rlen m (S i)) (k i))
/-- Behind x := Clean(z). -/
structure CX (w : World) (N : Int) (A : Option Addr) (ml cap : Nat) (I J C L H : Int) (m : Nat) (D : Option Mat) (bx : Nat) (A0 : Option Addr) (c0 : Nat) (W : World) : Prop where
  mv : MV w N A ml cap I J C L H W
  xb : Duo W bx 24 (.int .i64 ((m : Int) - 1)) (.slice A0 (rlen m D) c0)
  xz : ZRes W 0 m D (zoneV ((m : Int) - 1) A0 (rlen m D) c0)
section
variable {w W W1 : World} {N : Int} {A A0 : Option Addr} {ml cap m bx c0 g : Nat} {I J C L H : Int} {D : Option Mat} {S : Nat → Option Mat} {B : Nat → Option Addr} {k : Nat → Nat}
theorem ZL.below (h : ZL W g m S B k) (hb : Below W.heap.size W W1) : ZL W1 g m S B k :=
  ⟨Nat.lt_of_lt_of_le h.lt hb.size, fun i hi => ⟨(hb.cell (p := ⟨g, 2 * i, none⟩) h.lt).trans (h.c0 i hi).1, (hb.cell (p := ⟨g, 2 * i + 1, none⟩) h.lt).trans (h.c0 i hi).2⟩, fun i hi => (h.z i hi).below hb⟩
theorem CX.below (h : CX w N A ml cap I J C L H m D bx A0 c0 W) (hb : Below W.heap.size W W1) : CX w N A ml cap I J C L H m D bx A0 c0 W1 := ⟨h.mv.below hb, h.xb.below hb, h.xz.below hb⟩
theorem CX.xs (h : CX w N A ml cap I J C L H m D bx A0 c0 W) : (W.cell? ⟨bx, 0, none⟩ = some (.int .i64 ((m : Int) - 1)) ∧ W.cell? ⟨bx, 1, none⟩ = some (.slice A0 (rlen m D) c0)) ∧ W.cell? ⟨w.heap.size + 1, 0, none⟩ = some (.int .i64 I) ∧ W.cell? ⟨w.heap.size + 1, 1, none⟩ = some (.int .i64 J) ∧ W.cell? ⟨w.heap.size + 1, 2, none⟩ = some (.int .i64 C) ∧ W.cell? ⟨w.heap.size + 1, 3, none⟩ = some (.int .i64 L) ∧ W.cell? ⟨w.heap.size + 1, 4, none⟩ = some (.int .i64 H) := ⟨⟨h.xb.cell0, h.xb.cell1⟩, h.mv.cb.cells⟩
theorem CX.xs2 (h : CX w N A ml cap I J C L H m D bx A0 c0 W) {o : Obj} : ((W.alloc o).cell? ⟨bx, 0, none⟩ = some (.int .i64 ((m : Int) - 1)) ∧ (W.alloc o).cell? ⟨bx, 1, none⟩ = some (.slice A0 (rlen m D) c0)) ∧ (W.alloc o).cell? ⟨w.heap.size + 1, 0, none⟩ = some (.int .i64 I) ∧ (W.alloc o).cell? ⟨w.heap.size + 1, 1, none⟩ = some (.int .i64 J) ∧ (W.alloc o).cell? ⟨w.heap.size + 1, 2, none⟩ = some (.int .i64 C) ∧ (W.alloc o).cell? ⟨w.heap.size + 1, 3, none⟩ = some (.int .i64 L) ∧ (W.alloc o).cell? ⟨w.heap.size + 1, 4, none⟩ = some (.int .i64 H) := (h.below (zboxed _ _)).xs
/-- All that is loaded. -/
theorem CX.all (h : CX w N A ml cap I J C L H m D bx A0 c0 W) : ((W.cell? ⟨w.heap.size, 0, none⟩ = some (.int .i64 N) ∧ W.cell? ⟨w.heap.size, 1, none⟩ = some (.slice A ml cap)) ∧ W.cell? ⟨w.heap.size + 1, 0, none⟩ = some (.int .i64 I) ∧ W.cell? ⟨w.heap.size + 1, 1, none⟩ = some (.int .i64 J) ∧ W.cell? ⟨w.heap.size + 1, 2, none⟩ = some (.int .i64 C) ∧ W.cell? ⟨w.heap.size + 1, 3, none⟩ = some (.int .i64 L) ∧ W.cell? ⟨w.heap.size + 1, 4, none⟩ = some (.int .i64 H)) ∧ W.cell? ⟨bx, 0, none⟩ = some (.int .i64 ((m : Int) - 1)) ∧ W.cell? ⟨bx, 1, none⟩ = some (.slice A0 (rlen m D) c0) := ⟨h.mv.s, h.xb.cell0, h.xb.cell1⟩
theorem zl_new {A0 A1 A2 A3 : Option Addr} {c0 c1 c2 c3 : Nat} {S0 S1 S2 S3 : Option Mat} (t : TypeId) (W : World)
    (z0 : ZRes W 0 m S0 (zoneV ((m : Int) - 1) A0 (rlen m S0) c0)) (z1 : ZRes W 0 m S1 (zoneV ((m : Int) - 1) A1 (rlen m S1) c1)) (z2 : ZRes W 0 m S2 (zoneV ((m : Int) - 1) A2 (rlen m S2) c2)) (z3 : ZRes W 0 m S3 (zoneV ((m : Int) - 1) A3 (rlen m S3) c3)) :
    ZL (W.alloc (.cells #[.int .i64 ((m : Int) - 1), .slice A0 (rlen m S0) c0, .int .i64 ((m : Int) - 1), .slice A1 (rlen m S1) c1, .int .i64 ((m : Int) - 1), .slice A2 (rlen m S2) c2, .int .i64 ((m : Int) - 1), .slice A3 (rlen m S3) c3] t)) W.heap.size m (pick4 S0 S1 S2 S3) (pick4 A0 A1 A2 A3) (pick4 c0 c1 c2 c3) := by
  have hb := zboxed W (.cells #[.int .i64 ((m : Int) - 1), .slice A0 (rlen m S0) c0, .int .i64 ((m : Int) - 1), .slice A1 (rlen m S1) c1, .int .i64 ((m : Int) - 1), .slice A2 (rlen m S2) c2, .int .i64 ((m : Int) - 1), .slice A3 (rlen m S3) c3] t)
  have hh := World.alloc_heap_new W (.cells #[.int .i64 ((m : Int) - 1), .slice A0 (rlen m S0) c0, .int .i64 ((m : Int) - 1), .slice A1 (rlen m S1) c1, .int .i64 ((m : Int) - 1), .slice A2 (rlen m S2) c2, .int .i64 ((m : Int) - 1), .slice A3 (rlen m S3) c3] t)
  have hs := World.size_alloc W (.cells #[.int .i64 ((m : Int) - 1), .slice A0 (rlen m S0) c0, .int .i64 ((m : Int) - 1), .slice A1 (rlen m S1) c1, .int .i64 ((m : Int) - 1), .slice A2 (rlen m S2) c2, .int .i64 ((m : Int) - 1), .slice A3 (rlen m S3) c3] t)
  generalize W.alloc (.cells #[.int .i64 ((m : Int) - 1), .slice A0 (rlen m S0) c0, .int .i64 ((m : Int) - 1), .slice A1 (rlen m S1) c1, .int .i64 ((m : Int) - 1), .slice A2 (rlen m S2) c2, .int .i64 ((m : Int) - 1), .slice A3 (rlen m S3) c3] t) = W1 at *
  have hc : ∀ o, W1.cell? ⟨W.heap.size, o, none⟩ = #[Value.int .i64 ((m : Int) - 1), .slice A0 (rlen m S0) c0, .int .i64 ((m : Int) - 1), .slice A1 (rlen m S1) c1, .int .i64 ((m : Int) - 1), .slice A2 (rlen m S2) c2, .int .i64 ((m : Int) - 1), .slice A3 (rlen m S3) c3][o]? := fun o => by
    simp [World.cell?, hh]
  refine ⟨by omega, fun i hi => ?_, fun i hi => ?_⟩
  · rw [hc, hc]
    match i, hi with
    | 0, _ => exact ⟨rfl, rfl⟩
    | 1, _ => exact ⟨rfl, rfl⟩
    | 2, _ => exact ⟨rfl, rfl⟩
    | 3, _ => exact ⟨rfl, rfl⟩
  · match i, hi with
    | 0, _ => exact z0.below hb
    | 1, _ => exact z1.below hb
    | 2, _ => exact z2.below hb
    | 3, _ => exact z3.below hb
end
end Go.Proofs.YtlddelnbjihhgaaGreatDoor

/- ZoneChanges: where the zone has at most 100 bounds. -/
namespace Go.Proofs.YtlddelnbjihhgaaGreatDoor
open Go.RowKit
attribute [local go_sem ↓] Go.wp_at_zero Go.wp_at_succ

set_option maxRecDepth 100000 in
set_option maxHeartbeats 12800000 in
theorem changes_in {w : World} {N : Int} {A : Option Addr} {ml cap : Nat} {I J C L H : Int} {fz : Nat → Int} (hz : ZArg w (zoneV N A ml cap) N ml fz) (h : ml ≤ 100) (hC : -9223372036854775808 ≤ C ∧ C ≤ 9223372036854775807) :
    Calls Tryz.prog 3 #[zoneV N A ml cap, .agg #[.int .i64 I, .int .i64 J, .int .i64 C, .int .i64 L, .int .i64 H]] w (RetB w true) := by
  obtain ⟨h0, h7⟩ := zm_bd N
  have hT := mv_new w N A ml cap I J C L H
  have HFew : Hid (∀ W, Calls Tryz.prog 5 #[zoneV N A ml cap] W (RetB W true)) := Lib.hid fun W => by
    have q := few_any W N A ml cap
    rw [decide_eq_true h] at q
    exact q
  have HClo : ∀ W, Below w.heap.size w W → Calls Tryz.prog 34 #[zoneV N A ml cap] W (RetC W (zm N) (zr N ml fz)) := fun W hb => close_z (hz.below hb)
  have HCl : Hid (∀ W, Below w.heap.size w W → Calls Tryz.prog 7 #[zoneV N A ml cap] W (RetC W (zm N) (zr N ml fz))) := Lib.hid fun W hb => rclean_z (hz.below hb)
  have hD : ∀ E, zr N ml fz = some E → Closed (zm N) E := fun E e => zr_closed e
  generalize zr N ml fz = D at *
  generalize zm N = m at *
  have HFo : Hid (∀ W, Below w.heap.size w W → Calls Tryz.prog 8 #[zoneV N A ml cap, .int .i64 I] W (RetC W m (fgO m D I))) := Lib.hid fun W hb => forget_any h0 h7 (fun W1 hb1 => HClo W1 (hb.trans (hb1.mono hb.size)))
  have HSe : Hid (∀ W, Below w.heap.size w W → Calls Tryz.prog 10 #[zoneV N A ml cap, .int .i64 I, .agg #[.int .i64 L, .int .i64 H]] W (RetC W m (setO m D I L H))) := Lib.hid fun W hb => set_any h0 h7 (fun W1 hb1 => HClo W1 (hb.trans (hb1.mono hb.size))) hD
  have HCp : Hid (∀ W, Below w.heap.size w W → Calls Tryz.prog 11 #[zoneV N A ml cap, .int .i64 I, .int .i64 J, .int .i64 C] W (RetC W m (cpyO m D I J C))) := Lib.hid fun W hb => copy_any h0 h7 (fun W1 hb1 => HClo W1 (hb.trans (hb1.mono hb.size)))
  have HGu : Hid (∀ W, Below w.heap.size w W → Calls Tryz.prog 12 #[zoneV N A ml cap, .int .i64 I, .int .i64 J, .int .i64 C] W (RetC W m (grdO m D I J C))) := Lib.hid fun W hb => guard_any h0 h7 hC (fun W1 hb1 => HClo W1 (hb.trans (hb1.mono hb.size)))
  have HGe : Hid (∀ W, Below w.heap.size w W → Calls Tryz.prog 19 #[zoneV N A ml cap, .int .i64 I, .int .i64 J] W (RetI W (getO m D I J))) := Lib.hid fun W hb => get_any h0 h7 (fun W1 hb1 => HClo W1 (hb.trans (hb1.mono hb.size)))
  have HSp : Hid (∀ W, Below w.heap.size w W → Calls Tryz.prog 21 #[zoneV N A ml cap, .int .i64 I] W (RetSpan (spO m D I).1 (spO m D I).2 W)) := Lib.hid fun W hb => span_any h0 h7 (fun W1 hb1 => HClo W1 (hb.trans (hb1.mono hb.size)))
  have GFo : Hid (∀ W B k, ZRes W 0 m D (zoneV ((m : Int) - 1) B (rlen m D) k) → Calls Tryz.prog 13 #[zoneV ((m : Int) - 1) B (rlen m D) k, .int .i64 I] W (RetY W m (fgO m D I))) := Lib.hid fun W B k q => rforget_any h0 h7 q
  have GSe : Hid (∀ W B k, ZRes W 0 m D (zoneV ((m : Int) - 1) B (rlen m D) k) → Calls Tryz.prog 14 #[zoneV ((m : Int) - 1) B (rlen m D) k, .int .i64 I, .agg #[.int .i64 L, .int .i64 H]] W (RetY W m (setO m D I L H))) := Lib.hid fun W B k q => rset_any h0 h7 q
  have GCp : Hid (∀ W B k, ZRes W 0 m D (zoneV ((m : Int) - 1) B (rlen m D) k) → Calls Tryz.prog 15 #[zoneV ((m : Int) - 1) B (rlen m D) k, .int .i64 I, .int .i64 J, .int .i64 C] W (RetY W m (cpyO m D I J C))) := Lib.hid fun W B k q => rcopy_any h0 h7 q
  have GGu : Hid (∀ W B k, ZRes W 0 m D (zoneV ((m : Int) - 1) B (rlen m D) k) → Calls Tryz.prog 16 #[zoneV ((m : Int) - 1) B (rlen m D) k, .int .i64 I, .int .i64 J, .int .i64 C] W (RetY W m (grdO m D I J C))) := Lib.hid fun W B k q => rguard_any h0 h7 q
  have GGe : Hid (∀ W B k, ZRes W 0 m D (zoneV ((m : Int) - 1) B (rlen m D) k) → Calls Tryz.prog 20 #[zoneV ((m : Int) - 1) B (rlen m D) k, .int .i64 I, .int .i64 J] W (RetI W (getO m D I J))) := Lib.hid fun W B k q => rget_any h0 h7 q
  have GSp : Hid (∀ W B k, ZRes W 0 m D (zoneV ((m : Int) - 1) B (rlen m D) k) → Calls Tryz.prog 22 #[zoneV ((m : Int) - 1) B (rlen m D) k, .int .i64 I] W (RetSpan (spO m D I).1 (spO m D I).2 W)) := Lib.hid fun W B k q => rspan_any h0 h7 q
  generalize fgO m D I = SF at *
  generalize setO m D I L H = SS at *
  generalize cpyO m D I J C = SC at *
  generalize grdO m D I J C = SG at *
  generalize getO m D I J = xg at *
  obtain ⟨s1, hs1⟩ : ∃ s, (spO m D I).1 = s := ⟨_, rfl⟩
  obtain ⟨s2, hs2⟩ : ∃ s, (spO m D I).2 = s := ⟨_, rfl⟩
  rw [hs1, hs2] at HSp GSp
  have HT := Lib.hid hT
  have H0 := Lib.hid h0
  have H7 := Lib.hid h7
  clear hT hz h hC HClo hD hs1 hs2 h0 h7
  go_enter Tryz.func3, Tryz.ntmps3
  go_wp2_with (first
    | (go_at_call 5; ((with_reducible refine (HFew.out _).mono ?_); rintro e w1 ⟨rfl, hb1⟩); have M1 := Lib.hid (HT.out.below hb1); obtain ⟨⟨a0, a1⟩, a2, a3, a4, a5, a6⟩ := M1.out.s; obtain ⟨a7, a8⟩ := M1.out.sz; have B1 := Lib.hid M1.out.low; clear hb1)
    | (go_at_call 7; have hb1 := B1.out; ((with_reducible refine (HCl.out _ hb1).mono ?_); rintro e w2 ⟨A0, c0, rfl, hz2, hb2⟩); have M2 := Lib.hid (M1.out.below hb2); have Z2 := Lib.hid hz2; clear hb1 hb2 hz2 a0 a1 a2 a3 a4 a5 a6 a7 a8))
  obtain ⟨wx, hwx⟩ : ∃ wx, w2.alloc (.cells #[.int .i64 ((m : Int) - 1), .slice A0 (rlen m D) c0] 24) = wx := ⟨_, rfl⟩
  have hX : CX w N A ml cap I J C L H m D w2.heap.size A0 c0 wx := by
    subst hwx
    exact ⟨M2.out.below (zboxed _ _), Duo.new _ _ _ _, (Z2.out.lower (Nat.zero_le _)).below (zboxed _ _)⟩
  rw [hwx]
  clear hwx Z2 M2 B1 M1 HT HFew HCl
  generalize w2.heap.size = bx at *
  have X := Lib.hid hX
  clear hX
  go_cut [6] (fun s wc => ∃ g B k, s = .slice (some ⟨g, 0, none⟩) 4 4 ∧ CX w N A ml cap I J C L H m D bx A0 c0 wc ∧ ZL wc g m (pick4 SF SS SC SG) B k)
  case first =>
    have CUR := Lib.hid (X.out.below (Below.refl _ _).drew)
    go_region_held3 (fun w' => (w'.cell? ⟨w.heap.size, 0, none⟩ = some (.int .i64 N) ∧ w'.cell? ⟨w.heap.size, 1, none⟩ = some (.slice A ml cap)) ∧ w'.cell? ⟨w.heap.size + 1, 0, none⟩ = some (.int .i64 I) ∧ w'.cell? ⟨w.heap.size + 1, 1, none⟩ = some (.int .i64 J) ∧ w'.cell? ⟨w.heap.size + 1, 2, none⟩ = some (.int .i64 C) ∧ w'.cell? ⟨w.heap.size + 1, 3, none⟩ = some (.int .i64 L) ∧ w'.cell? ⟨w.heap.size + 1, 4, none⟩ = some (.int .i64 H))
      (first | (with_reducible exact CUR.out.mv.s) | (with_reducible exact (MV.below CUR.out.mv (zboxed _ _)).s) | (with_reducible exact X.out.mv.s))
      (first
        | (go_at_call 9; ((with_reducible refine (of_zone _ N A ml cap).mono ?_); rintro e w3 ⟨rfl, hb3⟩); (try (have Z1 := Lib.hid (Z1.out.below hb3))); (try (have Z2 := Lib.hid (Z2.out.below hb3))); (try (have Z3 := Lib.hid (Z3.out.below hb3))); have CUR := Lib.hid (CUR.out.below hb3); clear hb3)
        | (go_at_call 8; have hb := CUR.out.mv.low; ((with_reducible refine (HFo.out _ hb).mono ?_); rintro e w4 ⟨A1, c1, rfl, hz, hb3⟩); have Z1 := Lib.hid (hz.lower (Nat.zero_le _)); have CUR := Lib.hid (CUR.out.below hb3); clear hb hz hb3)
        | (go_at_call 10; have hb := CUR.out.mv.low; ((with_reducible refine (HSe.out _ hb).mono ?_); rintro e w4 ⟨A2, c2, rfl, hz, hb3⟩); have Z1 := Lib.hid (Z1.out.below hb3); have Z2 := Lib.hid (hz.lower (Nat.zero_le _)); have CUR := Lib.hid (CUR.out.below hb3); clear hb hz hb3)
        | (go_at_call 11; have hb := CUR.out.mv.low; ((with_reducible refine (HCp.out _ hb).mono ?_); rintro e w4 ⟨A3, c3, rfl, hz, hb3⟩); have Z1 := Lib.hid (Z1.out.below hb3); have Z2 := Lib.hid (Z2.out.below hb3); have Z3 := Lib.hid (hz.lower (Nat.zero_le _)); have CUR := Lib.hid (CUR.out.below hb3); clear hb hz hb3)
        | (go_at_call 12; have hb := CUR.out.mv.low; ((with_reducible refine (HGu.out _ hb).mono ?_); rintro e w4 ⟨A4, c4, rfl, hz, hb3⟩); have Z1 := Lib.hid (Z1.out.below hb3); have Z2 := Lib.hid (Z2.out.below hb3); have Z3 := Lib.hid (Z3.out.below hb3); have Z4 := Lib.hid (hz.lower (Nat.zero_le _)); have CUR := Lib.hid (CUR.out.below hb3); clear hb hz hb3))
    all_goals go_wp2_with fail
    all_goals go_meet
    all_goals exact ⟨_, _, _, rfl, CUR.out.below (zboxed _ _), zl_new _ _ Z1.out Z2.out Z3.out Z4.out⟩
  case rest =>
    obtain ⟨g1, B1, k1, rfl, hX1, hL1⟩ := hcut
    have X1 := Lib.hid hX1
    have L1 := Lib.hid hL1
    clear hX1 hL1 X HFo HSe HCp HGu
    go_wp2_with fail
    go_cut [7] (fun s wc => ∃ g B k, s = .slice (some ⟨g, 0, none⟩) 4 4 ∧ CX w N A ml cap I J C L H m D bx A0 c0 wc ∧ ZL wc g1 m (pick4 SF SS SC SG) B1 k1 ∧ ZL wc g m (pick4 SF SS SC SG) B k)
    case first =>
      have CUR := Lib.hid (X1.out.below (Below.refl _ _).drew)
      have LUR := Lib.hid (L1.out.below (Below.refl _ _).drew)
      go_region_held3 (fun w' => (w'.cell? ⟨bx, 0, none⟩ = some (.int .i64 ((m : Int) - 1)) ∧ w'.cell? ⟨bx, 1, none⟩ = some (.slice A0 (rlen m D) c0)) ∧ w'.cell? ⟨w.heap.size + 1, 0, none⟩ = some (.int .i64 I) ∧ w'.cell? ⟨w.heap.size + 1, 1, none⟩ = some (.int .i64 J) ∧ w'.cell? ⟨w.heap.size + 1, 2, none⟩ = some (.int .i64 C) ∧ w'.cell? ⟨w.heap.size + 1, 3, none⟩ = some (.int .i64 L) ∧ w'.cell? ⟨w.heap.size + 1, 4, none⟩ = some (.int .i64 H))
        (first | (with_reducible exact CUR.out.xs) | (with_reducible exact CUR.out.xs2))
        (first
          | (go_at_call 13; have hb := CUR.out.xz; ((with_reducible refine (GFo.out _ _ _ hb).mono ?_); rintro e w4 ⟨A1, c1, rfl, hz, hb3⟩); have Z1 := Lib.hid hz; have CUR := Lib.hid (CUR.out.below hb3); have LUR := Lib.hid (LUR.out.below hb3); clear hb hz hb3)
          | (go_at_call 14; have hb := CUR.out.xz; ((with_reducible refine (GSe.out _ _ _ hb).mono ?_); rintro e w4 ⟨A2, c2, rfl, hz, hb3⟩); have Z1 := Lib.hid (Z1.out.below hb3); have Z2 := Lib.hid hz; have CUR := Lib.hid (CUR.out.below hb3); have LUR := Lib.hid (LUR.out.below hb3); clear hb hz hb3)
          | (go_at_call 15; have hb := CUR.out.xz; ((with_reducible refine (GCp.out _ _ _ hb).mono ?_); rintro e w4 ⟨A3, c3, rfl, hz, hb3⟩); have Z1 := Lib.hid (Z1.out.below hb3); have Z2 := Lib.hid (Z2.out.below hb3); have Z3 := Lib.hid hz; have CUR := Lib.hid (CUR.out.below hb3); have LUR := Lib.hid (LUR.out.below hb3); clear hb hz hb3)
          | (go_at_call 16; have hb := CUR.out.xz; ((with_reducible refine (GGu.out _ _ _ hb).mono ?_); rintro e w4 ⟨A4, c4, rfl, hz, hb3⟩); have Z1 := Lib.hid (Z1.out.below hb3); have Z2 := Lib.hid (Z2.out.below hb3); have Z3 := Lib.hid (Z3.out.below hb3); have Z4 := Lib.hid hz; have CUR := Lib.hid (CUR.out.below hb3); have LUR := Lib.hid (LUR.out.below hb3); clear hb hz hb3))
      all_goals go_wp2_with fail
      all_goals go_meet
      all_goals exact ⟨_, _, _, rfl, CUR.out.below (zboxed _ _), LUR.out.below (zboxed _ _), zl_new _ _ Z1.out Z2.out Z3.out Z4.out⟩
    case rest =>
      obtain ⟨g2, B2, k2, rfl, hX2, hL2, hM2⟩ := hcut
      have X2 := Lib.hid hX2
      have L2 := Lib.hid hL2
      have M2 := Lib.hid hM2
      clear hX2 hL2 hM2 X1 L1 GFo GSe GCp GGu
      generalize pick4 SF SS SC SG = S at *
      have HSame : Hid (∀ W i, i < 4 → ZL W g1 m S B1 k1 → ZL W g2 m S B2 k2 → Calls Tryz.prog 17 #[zoneV ((m : Int) - 1) (B1 i) (rlen m (S i)) (k1 i), zoneV ((m : Int) - 1) (B2 i) (rlen m (S i)) (k2 i)] W (RetB W true)) := Lib.hid fun W i hi a b => lsame_any H7.out (a.z i hi) (b.z i hi)
      have HRight : Hid (∀ W i, i < 4 → ZL W g1 m S B1 k1 → Calls Tryz.prog 18 #[zoneV ((m : Int) - 1) (B1 i) (rlen m (S i)) (k1 i)] W (RetB W true)) := Lib.hid fun W i hi a => by
        have q := right_right (R2 := S i) H0.out H7.out (a.z i hi) (Nat.zero_le _) (fun W1 hb => close_back H0.out H7.out ((a.z i hi).below hb))
        rw [sameO_self] at q
        exact q
      go_wp2_with fail
      go_loopg [75] 4 (fun gk s wr => ∃ k : Nat, k + gk = 4 ∧ s = .int .i64 (k : Int) ∧ CX w N A ml cap I J C L H m D bx A0 c0 wr ∧ ZL wr g1 m S B1 k1 ∧ ZL wr g2 m S B2 k2)
      case atStart => exact ⟨0, by omega, rfl, X2.out, L2.out, M2.out⟩
      case round =>
        rename Nat => g0
        clear X2 L2 M2
        obtain ⟨k, hk', rfl, hX, hL, hM⟩ := hrel
        have HK := Lib.hid hk'
        have X := Lib.hid hX
        have L_ := Lib.hid hL
        have M := Lib.hid hM
        clear hk' hX hL hM
        by_cases hk4 : k < 4
        · rcases (show k = 0 ∨ k = 1 ∨ k = 2 ∨ k = 3 by omega) with rfl | rfl | rfl | rfl
          · -- round 0
            have HSa : Hid (∀ W, ZL W g1 m S B1 k1 → ZL W g2 m S B2 k2 → Calls Tryz.prog 17 #[zoneV ((m : Int) - 1) (B1 0) (rlen m (S 0)) (k1 0), zoneV ((m : Int) - 1) (B2 0) (rlen m (S 0)) (k2 0)] W (RetB W true)) := Lib.hid fun W a b => HSame.out W 0 (by decide) a b
            have HRa : Hid (∀ W, ZL W g1 m S B1 k1 → Calls Tryz.prog 18 #[zoneV ((m : Int) - 1) (B1 0) (rlen m (S 0)) (k1 0)] W (RetB W true)) := Lib.hid fun W a => HRight.out W 0 (by decide) a
            have HS4 : Hid (∀ W, ZL W g1 m S B1 k1 → ZL W g2 m S B2 k2 → ((W.cell? ⟨g1, 0, none⟩ = some (.int .i64 ((m : Int) - 1)) ∧ W.cell? ⟨g1, 1, none⟩ = some (.slice (B1 0) (rlen m (S 0)) (k1 0))) ∧ W.cell? ⟨g2, 0, none⟩ = some (.int .i64 ((m : Int) - 1)) ∧ W.cell? ⟨g2, 1, none⟩ = some (.slice (B2 0) (rlen m (S 0)) (k2 0))) ∧ g1 < W.heap.size ∧ g2 < W.heap.size) := Lib.hid fun W a b => ⟨⟨a.c0 0 (by decide), b.c0 0 (by decide)⟩, a.lt, b.lt⟩
            obtain ⟨b1, hb1⟩ : ∃ b, B1 0 = b := ⟨_, rfl⟩
            obtain ⟨b2, hb2⟩ : ∃ b, B2 0 = b := ⟨_, rfl⟩
            obtain ⟨q1, hq1⟩ : ∃ b, k1 0 = b := ⟨_, rfl⟩
            obtain ⟨q2, hq2⟩ : ∃ b, k2 0 = b := ⟨_, rfl⟩
            obtain ⟨n1, hn1⟩ : ∃ b, rlen m (S 0) = b := ⟨_, rfl⟩
            rw [hb1, hb2, hq1, hq2, hn1] at HSa HS4
            rw [hb1, hq1, hn1] at HRa
            clear hb1 hb2 hq1 hq2 hn1
            go_wp2_with fail
            go_cut [95] (fun s wx => s = .bool false ∧ CX w N A ml cap I J C L H m D bx A0 c0 wx ∧ ZL wx g1 m S B1 k1 ∧ ZL wx g2 m S B2 k2)
            case first =>
              have CUR := Lib.hid (X.out.below (Below.refl _ _).drew)
              have LUR := Lib.hid (L_.out.below (Below.refl _ _).drew)
              have MUR := Lib.hid (M.out.below (Below.refl _ _).drew)
              go_region_held3 (fun w' => ((w'.cell? ⟨g1, 0, none⟩ = some (.int .i64 ((m : Int) - 1)) ∧ w'.cell? ⟨g1, 1, none⟩ = some (.slice b1 n1 q1)) ∧ w'.cell? ⟨g2, 0, none⟩ = some (.int .i64 ((m : Int) - 1)) ∧ w'.cell? ⟨g2, 1, none⟩ = some (.slice b2 n1 q2)) ∧ g1 < w'.heap.size ∧ g2 < w'.heap.size)
                (first | (with_reducible exact HS4.out _ LUR.out MUR.out))
                (first
                  | (go_at_call 17; have ha := LUR.out; have hb := MUR.out; ((with_reducible refine (HSa.out _ ha hb).mono ?_); rintro e w4 ⟨rfl, hb3⟩); have CUR := Lib.hid (CUR.out.below hb3); have LUR := Lib.hid (LUR.out.below hb3); have MUR := Lib.hid (MUR.out.below hb3); clear ha hb hb3)
                  | (go_at_call 18; have ha := LUR.out; ((with_reducible refine (HRa.out _ ha).mono ?_); rintro e w4 ⟨rfl, hb3⟩); have CUR := Lib.hid (CUR.out.below hb3); have LUR := Lib.hid (LUR.out.below hb3); have MUR := Lib.hid (MUR.out.below hb3); clear ha hb3))
              all_goals go_wp2_with fail
              all_goals go_meet
              all_goals exact ⟨rfl, CUR.out, LUR.out, MUR.out⟩
            case rest =>
              obtain ⟨rfl, hX, hL, hM⟩ := hcut
              have X9 := Lib.hid hX
              have L9 := Lib.hid hL
              have M9 := Lib.hid hM
              clear hX hL hM
              go_wp2_with fail
              have hk' := HK.out
              go_roundg (g0 - 1)
              case measure => omega
              case rel => exact ⟨1, by omega, by simp, X9.out, L9.out, M9.out⟩
          · -- round 1
            have HSa : Hid (∀ W, ZL W g1 m S B1 k1 → ZL W g2 m S B2 k2 → Calls Tryz.prog 17 #[zoneV ((m : Int) - 1) (B1 1) (rlen m (S 1)) (k1 1), zoneV ((m : Int) - 1) (B2 1) (rlen m (S 1)) (k2 1)] W (RetB W true)) := Lib.hid fun W a b => HSame.out W 1 (by decide) a b
            have HRa : Hid (∀ W, ZL W g1 m S B1 k1 → Calls Tryz.prog 18 #[zoneV ((m : Int) - 1) (B1 1) (rlen m (S 1)) (k1 1)] W (RetB W true)) := Lib.hid fun W a => HRight.out W 1 (by decide) a
            have HS4 : Hid (∀ W, ZL W g1 m S B1 k1 → ZL W g2 m S B2 k2 → ((W.cell? ⟨g1, 2, none⟩ = some (.int .i64 ((m : Int) - 1)) ∧ W.cell? ⟨g1, 3, none⟩ = some (.slice (B1 1) (rlen m (S 1)) (k1 1))) ∧ W.cell? ⟨g2, 2, none⟩ = some (.int .i64 ((m : Int) - 1)) ∧ W.cell? ⟨g2, 3, none⟩ = some (.slice (B2 1) (rlen m (S 1)) (k2 1))) ∧ g1 < W.heap.size ∧ g2 < W.heap.size) := Lib.hid fun W a b => ⟨⟨a.c0 1 (by decide), b.c0 1 (by decide)⟩, a.lt, b.lt⟩
            obtain ⟨b1, hb1⟩ : ∃ b, B1 1 = b := ⟨_, rfl⟩
            obtain ⟨b2, hb2⟩ : ∃ b, B2 1 = b := ⟨_, rfl⟩
            obtain ⟨q1, hq1⟩ : ∃ b, k1 1 = b := ⟨_, rfl⟩
            obtain ⟨q2, hq2⟩ : ∃ b, k2 1 = b := ⟨_, rfl⟩
            obtain ⟨n1, hn1⟩ : ∃ b, rlen m (S 1) = b := ⟨_, rfl⟩
            rw [hb1, hb2, hq1, hq2, hn1] at HSa HS4
            rw [hb1, hq1, hn1] at HRa
            clear hb1 hb2 hq1 hq2 hn1
            go_wp2_with fail
            go_cut [95] (fun s wx => s = .bool false ∧ CX w N A ml cap I J C L H m D bx A0 c0 wx ∧ ZL wx g1 m S B1 k1 ∧ ZL wx g2 m S B2 k2)
            case first =>
              have CUR := Lib.hid (X.out.below (Below.refl _ _).drew)
              have LUR := Lib.hid (L_.out.below (Below.refl _ _).drew)
              have MUR := Lib.hid (M.out.below (Below.refl _ _).drew)
              go_region_held3 (fun w' => ((w'.cell? ⟨g1, 2, none⟩ = some (.int .i64 ((m : Int) - 1)) ∧ w'.cell? ⟨g1, 3, none⟩ = some (.slice b1 n1 q1)) ∧ w'.cell? ⟨g2, 2, none⟩ = some (.int .i64 ((m : Int) - 1)) ∧ w'.cell? ⟨g2, 3, none⟩ = some (.slice b2 n1 q2)) ∧ g1 < w'.heap.size ∧ g2 < w'.heap.size)
                (first | (with_reducible exact HS4.out _ LUR.out MUR.out))
                (first
                  | (go_at_call 17; have ha := LUR.out; have hb := MUR.out; ((with_reducible refine (HSa.out _ ha hb).mono ?_); rintro e w4 ⟨rfl, hb3⟩); have CUR := Lib.hid (CUR.out.below hb3); have LUR := Lib.hid (LUR.out.below hb3); have MUR := Lib.hid (MUR.out.below hb3); clear ha hb hb3)
                  | (go_at_call 18; have ha := LUR.out; ((with_reducible refine (HRa.out _ ha).mono ?_); rintro e w4 ⟨rfl, hb3⟩); have CUR := Lib.hid (CUR.out.below hb3); have LUR := Lib.hid (LUR.out.below hb3); have MUR := Lib.hid (MUR.out.below hb3); clear ha hb3))
              all_goals go_wp2_with fail
              all_goals go_meet
              all_goals exact ⟨rfl, CUR.out, LUR.out, MUR.out⟩
            case rest =>
              obtain ⟨rfl, hX, hL, hM⟩ := hcut
              have X9 := Lib.hid hX
              have L9 := Lib.hid hL
              have M9 := Lib.hid hM
              clear hX hL hM
              go_wp2_with fail
              have hk' := HK.out
              go_roundg (g0 - 1)
              case measure => omega
              case rel => exact ⟨2, by omega, by simp, X9.out, L9.out, M9.out⟩
          · -- round 2
            have HSa : Hid (∀ W, ZL W g1 m S B1 k1 → ZL W g2 m S B2 k2 → Calls Tryz.prog 17 #[zoneV ((m : Int) - 1) (B1 2) (rlen m (S 2)) (k1 2), zoneV ((m : Int) - 1) (B2 2) (rlen m (S 2)) (k2 2)] W (RetB W true)) := Lib.hid fun W a b => HSame.out W 2 (by decide) a b
            have HRa : Hid (∀ W, ZL W g1 m S B1 k1 → Calls Tryz.prog 18 #[zoneV ((m : Int) - 1) (B1 2) (rlen m (S 2)) (k1 2)] W (RetB W true)) := Lib.hid fun W a => HRight.out W 2 (by decide) a
            have HS4 : Hid (∀ W, ZL W g1 m S B1 k1 → ZL W g2 m S B2 k2 → ((W.cell? ⟨g1, 4, none⟩ = some (.int .i64 ((m : Int) - 1)) ∧ W.cell? ⟨g1, 5, none⟩ = some (.slice (B1 2) (rlen m (S 2)) (k1 2))) ∧ W.cell? ⟨g2, 4, none⟩ = some (.int .i64 ((m : Int) - 1)) ∧ W.cell? ⟨g2, 5, none⟩ = some (.slice (B2 2) (rlen m (S 2)) (k2 2))) ∧ g1 < W.heap.size ∧ g2 < W.heap.size) := Lib.hid fun W a b => ⟨⟨a.c0 2 (by decide), b.c0 2 (by decide)⟩, a.lt, b.lt⟩
            obtain ⟨b1, hb1⟩ : ∃ b, B1 2 = b := ⟨_, rfl⟩
            obtain ⟨b2, hb2⟩ : ∃ b, B2 2 = b := ⟨_, rfl⟩
            obtain ⟨q1, hq1⟩ : ∃ b, k1 2 = b := ⟨_, rfl⟩
            obtain ⟨q2, hq2⟩ : ∃ b, k2 2 = b := ⟨_, rfl⟩
            obtain ⟨n1, hn1⟩ : ∃ b, rlen m (S 2) = b := ⟨_, rfl⟩
            rw [hb1, hb2, hq1, hq2, hn1] at HSa HS4
            rw [hb1, hq1, hn1] at HRa
            clear hb1 hb2 hq1 hq2 hn1
            go_wp2_with fail
            go_cut [95] (fun s wx => s = .bool false ∧ CX w N A ml cap I J C L H m D bx A0 c0 wx ∧ ZL wx g1 m S B1 k1 ∧ ZL wx g2 m S B2 k2)
            case first =>
              have CUR := Lib.hid (X.out.below (Below.refl _ _).drew)
              have LUR := Lib.hid (L_.out.below (Below.refl _ _).drew)
              have MUR := Lib.hid (M.out.below (Below.refl _ _).drew)
              go_region_held3 (fun w' => ((w'.cell? ⟨g1, 4, none⟩ = some (.int .i64 ((m : Int) - 1)) ∧ w'.cell? ⟨g1, 5, none⟩ = some (.slice b1 n1 q1)) ∧ w'.cell? ⟨g2, 4, none⟩ = some (.int .i64 ((m : Int) - 1)) ∧ w'.cell? ⟨g2, 5, none⟩ = some (.slice b2 n1 q2)) ∧ g1 < w'.heap.size ∧ g2 < w'.heap.size)
                (first | (with_reducible exact HS4.out _ LUR.out MUR.out))
                (first
                  | (go_at_call 17; have ha := LUR.out; have hb := MUR.out; ((with_reducible refine (HSa.out _ ha hb).mono ?_); rintro e w4 ⟨rfl, hb3⟩); have CUR := Lib.hid (CUR.out.below hb3); have LUR := Lib.hid (LUR.out.below hb3); have MUR := Lib.hid (MUR.out.below hb3); clear ha hb hb3)
                  | (go_at_call 18; have ha := LUR.out; ((with_reducible refine (HRa.out _ ha).mono ?_); rintro e w4 ⟨rfl, hb3⟩); have CUR := Lib.hid (CUR.out.below hb3); have LUR := Lib.hid (LUR.out.below hb3); have MUR := Lib.hid (MUR.out.below hb3); clear ha hb3))
              all_goals go_wp2_with fail
              all_goals go_meet
              all_goals exact ⟨rfl, CUR.out, LUR.out, MUR.out⟩
            case rest =>
              obtain ⟨rfl, hX, hL, hM⟩ := hcut
              have X9 := Lib.hid hX
              have L9 := Lib.hid hL
              have M9 := Lib.hid hM
              clear hX hL hM
              go_wp2_with fail
              have hk' := HK.out
              go_roundg (g0 - 1)
              case measure => omega
              case rel => exact ⟨3, by omega, by simp, X9.out, L9.out, M9.out⟩
          · -- round 3
            have HSa : Hid (∀ W, ZL W g1 m S B1 k1 → ZL W g2 m S B2 k2 → Calls Tryz.prog 17 #[zoneV ((m : Int) - 1) (B1 3) (rlen m (S 3)) (k1 3), zoneV ((m : Int) - 1) (B2 3) (rlen m (S 3)) (k2 3)] W (RetB W true)) := Lib.hid fun W a b => HSame.out W 3 (by decide) a b
            have HRa : Hid (∀ W, ZL W g1 m S B1 k1 → Calls Tryz.prog 18 #[zoneV ((m : Int) - 1) (B1 3) (rlen m (S 3)) (k1 3)] W (RetB W true)) := Lib.hid fun W a => HRight.out W 3 (by decide) a
            have HS4 : Hid (∀ W, ZL W g1 m S B1 k1 → ZL W g2 m S B2 k2 → ((W.cell? ⟨g1, 6, none⟩ = some (.int .i64 ((m : Int) - 1)) ∧ W.cell? ⟨g1, 7, none⟩ = some (.slice (B1 3) (rlen m (S 3)) (k1 3))) ∧ W.cell? ⟨g2, 6, none⟩ = some (.int .i64 ((m : Int) - 1)) ∧ W.cell? ⟨g2, 7, none⟩ = some (.slice (B2 3) (rlen m (S 3)) (k2 3))) ∧ g1 < W.heap.size ∧ g2 < W.heap.size) := Lib.hid fun W a b => ⟨⟨a.c0 3 (by decide), b.c0 3 (by decide)⟩, a.lt, b.lt⟩
            obtain ⟨b1, hb1⟩ : ∃ b, B1 3 = b := ⟨_, rfl⟩
            obtain ⟨b2, hb2⟩ : ∃ b, B2 3 = b := ⟨_, rfl⟩
            obtain ⟨q1, hq1⟩ : ∃ b, k1 3 = b := ⟨_, rfl⟩
            obtain ⟨q2, hq2⟩ : ∃ b, k2 3 = b := ⟨_, rfl⟩
            obtain ⟨n1, hn1⟩ : ∃ b, rlen m (S 3) = b := ⟨_, rfl⟩
            rw [hb1, hb2, hq1, hq2, hn1] at HSa HS4
            rw [hb1, hq1, hn1] at HRa
            clear hb1 hb2 hq1 hq2 hn1
            go_wp2_with fail
            go_cut [95] (fun s wx => s = .bool false ∧ CX w N A ml cap I J C L H m D bx A0 c0 wx ∧ ZL wx g1 m S B1 k1 ∧ ZL wx g2 m S B2 k2)
            case first =>
              have CUR := Lib.hid (X.out.below (Below.refl _ _).drew)
              have LUR := Lib.hid (L_.out.below (Below.refl _ _).drew)
              have MUR := Lib.hid (M.out.below (Below.refl _ _).drew)
              go_region_held3 (fun w' => ((w'.cell? ⟨g1, 6, none⟩ = some (.int .i64 ((m : Int) - 1)) ∧ w'.cell? ⟨g1, 7, none⟩ = some (.slice b1 n1 q1)) ∧ w'.cell? ⟨g2, 6, none⟩ = some (.int .i64 ((m : Int) - 1)) ∧ w'.cell? ⟨g2, 7, none⟩ = some (.slice b2 n1 q2)) ∧ g1 < w'.heap.size ∧ g2 < w'.heap.size)
                (first | (with_reducible exact HS4.out _ LUR.out MUR.out))
                (first
                  | (go_at_call 17; have ha := LUR.out; have hb := MUR.out; ((with_reducible refine (HSa.out _ ha hb).mono ?_); rintro e w4 ⟨rfl, hb3⟩); have CUR := Lib.hid (CUR.out.below hb3); have LUR := Lib.hid (LUR.out.below hb3); have MUR := Lib.hid (MUR.out.below hb3); clear ha hb hb3)
                  | (go_at_call 18; have ha := LUR.out; ((with_reducible refine (HRa.out _ ha).mono ?_); rintro e w4 ⟨rfl, hb3⟩); have CUR := Lib.hid (CUR.out.below hb3); have LUR := Lib.hid (LUR.out.below hb3); have MUR := Lib.hid (MUR.out.below hb3); clear ha hb3))
              all_goals go_wp2_with fail
              all_goals go_meet
              all_goals exact ⟨rfl, CUR.out, LUR.out, MUR.out⟩
            case rest =>
              obtain ⟨rfl, hX, hL, hM⟩ := hcut
              have X9 := Lib.hid hX
              have L9 := Lib.hid hL
              have M9 := Lib.hid hM
              clear hX hL hM
              go_wp2_with fail
              have hk' := HK.out
              go_roundg (g0 - 1)
              case measure => omega
              case rel => exact ⟨4, by omega, by simp, X9.out, L9.out, M9.out⟩
        · have hke : k = 4 := by have := HK.out; omega
          subst hke
          clear hk4
          go_wp2_with fail
          have CUR := Lib.hid (X.out.below (Below.refl _ _).drew)
          go_region_held3 (fun w' => ((w'.cell? ⟨w.heap.size, 0, none⟩ = some (.int .i64 N) ∧ w'.cell? ⟨w.heap.size, 1, none⟩ = some (.slice A ml cap)) ∧ w'.cell? ⟨w.heap.size + 1, 0, none⟩ = some (.int .i64 I) ∧ w'.cell? ⟨w.heap.size + 1, 1, none⟩ = some (.int .i64 J) ∧ w'.cell? ⟨w.heap.size + 1, 2, none⟩ = some (.int .i64 C) ∧ w'.cell? ⟨w.heap.size + 1, 3, none⟩ = some (.int .i64 L) ∧ w'.cell? ⟨w.heap.size + 1, 4, none⟩ = some (.int .i64 H)) ∧ w'.cell? ⟨bx, 0, none⟩ = some (.int .i64 ((m : Int) - 1)) ∧ w'.cell? ⟨bx, 1, none⟩ = some (.slice A0 (rlen m D) c0))
            (first | (with_reducible exact CUR.out.all))
            (first
              | (go_at_call 6; ((with_reducible refine (alive_any _).mono ?_); rintro e w4 ⟨rfl, hb3⟩); have CUR := Lib.hid (CUR.out.below hb3); clear hb3)
              | (go_at_call 9; ((with_reducible refine (of_zone _ N A ml cap).mono ?_); rintro e w4 ⟨rfl, hb3⟩); have CUR := Lib.hid (CUR.out.below hb3); clear hb3)
              | (go_at_call 19; have hb := CUR.out.mv.low; ((with_reducible refine (HGe.out _ hb).mono ?_); rintro e w4 ⟨rfl, hb3⟩); have CUR := Lib.hid (CUR.out.below hb3); clear hb hb3)
              | (go_at_call 20; have hb := CUR.out.xz; ((with_reducible refine (GGe.out _ _ _ hb).mono ?_); rintro e w4 ⟨rfl, hb3⟩); have CUR := Lib.hid (CUR.out.below hb3); clear hb hb3)
              | (go_at_call 21; have hb := CUR.out.mv.low; ((with_reducible refine (HSp.out _ hb).mono ?_); rintro e w4 ⟨rfl, hb3⟩); have CUR := Lib.hid (CUR.out.below hb3); clear hb hb3)
              | (go_at_call 22; have hb := CUR.out.xz; ((with_reducible refine (GSp.out _ _ _ hb).mono ?_); rintro e w4 ⟨rfl, hb3⟩); have CUR := Lib.hid (CUR.out.below hb3); clear hb hb3))
          all_goals go_wp2_with fail
          all_goals go_ret
          all_goals exact ⟨rfl, CUR.out.mv.low⟩
end Go.Proofs.YtlddelnbjihhgaaGreatDoor

/- ZoneChanges: the walk, whole; what an argument that is a change holds, with the range of its number. -/
namespace Go.Proofs.YtlddelnbjihhgaaGreatDoor
open Go.ChangeShapes Go.WideShapes Go.ChangeAt Go.RowKit Go.Joins
attribute [local go_sem ↓] Go.wp_at_zero Go.wp_at_succ

section
variable {H : Type} {enc : TypeId × Value → H} {W : World} {b0 base : Nat} {sp : Nat → Bool} {held : Bool} {v : Value} {d : DataW H} {ps : List MemPlace}
theorem i64_range {z : Int} (hw : (Lit.int .i64 z).wf = true) : -9223372036854775808 ≤ z ∧ z ≤ 9223372036854775807 := by
  have h1 : IntKind.i64.min = -9223372036854775808 := by decide
  have h2 : IntKind.i64.max = 9223372036854775807 := by decide
  simpa [Lit.wf, h1, h2] using hw
set_option maxRecDepth 100000 in
theorem val_changer (hv : Value.okWide Tryz.prog W .any b0 28 v) (hd : DataW.Trod enc Tryz.prog W base sp held 28 v d ps) : ∃ I J C L H : Int, v = .agg #[.int .i64 I, .int .i64 J, .int .i64 C, .int .i64 L, .int .i64 H] ∧ (-9223372036854775808 ≤ C ∧ C ≤ 9223372036854775807) := by
  obtain ⟨cs, rfl, hsz⟩ := okWide_struct Tryz.underlying28 hv
  obtain ⟨c0, c1, c2, c3, c4, rfl⟩ := five_of (hsz.trans cells_change)
  obtain ⟨fuel, hf⟩ := hd
  obtain ⟨y0, y1, y2, y3, n, -, -, h0, h1, h2, h3⟩ := trod_struct4 Tryz.underlying28 hf
  rw [cells_int] at h0 h1 h2
  rw [cells_rspan] at h3
  obtain ⟨x, e0, -, -⟩ := DataW.trod_int Tryz.underlying3 (show DataW.trod enc Tryz.prog W base sp held n 3 [c0] = some y0 from h0)
  obtain ⟨y, e1, -, -⟩ := DataW.trod_int Tryz.underlying3 (show DataW.trod enc Tryz.prog W base sp held n 3 [c1] = some y1 from h1)
  obtain ⟨z, e2, -, hw⟩ := DataW.trod_int Tryz.underlying3 (show DataW.trod enc Tryz.prog W base sp held n 3 [c2] = some y2 from h2)
  obtain ⟨p, q, e3⟩ := rspan_nums (show DataW.trod enc Tryz.prog W base sp held n 26 [c3, c4] = some y3 from h3)
  simp only [List.cons.injEq, and_true] at e0 e1 e2 e3
  exact ⟨x, y, z, p, q, by rw [e0, e1, e2, e3.1, e3.2], i64_range hw⟩
end
set_option maxRecDepth 100000 in
set_option maxHeartbeats 1600000 in
theorem changes_far {w : World} {N : Int} {A : Option Addr} {ml cap : Nat} {I J C L H : Int} (h : ¬ ml ≤ 100) :
    Calls Tryz.prog 3 #[zoneV N A ml cap, .agg #[.int .i64 I, .int .i64 J, .int .i64 C, .int .i64 L, .int .i64 H]] w (RetB w true) := by
  have HT := Lib.hid (mv_new w N A ml cap I J C L H)
  have HFew : Hid (∀ W, Calls Tryz.prog 5 #[zoneV N A ml cap] W (RetB W false)) := Lib.hid fun W => by
    have q := few_any W N A ml cap
    rw [decide_eq_false h] at q
    exact q
  clear h
  go_enter Tryz.func3, Tryz.ntmps3
  go_wp2_with (first
    | (go_at_call 5; ((with_reducible refine (HFew.out _).mono ?_); rintro e w1 ⟨rfl, hb1⟩); have B1 := Lib.hid (HT.out.low.trans (hb1.mono HT.out.low.size)); clear hb1)
    | (go_at_call 6; ((with_reducible refine (alive_any _).mono ?_); rintro e w2 ⟨rfl, hb2⟩); have B2 := Lib.hid (B1.out.trans (hb2.mono B1.out.size)); clear hb2))
  go_ret
  exact ⟨rfl, B2.out⟩
theorem zone_changes_walk (x0 : Int) (A0 : Option Addr) (m0 c0 : Nat) (f0 : Nat → Int) (I J C L H : Int) (W : World) (_ : m0 ≤ 9223372036854775807) (mc0 : m0 ≤ c0) (h0 : ZInts W A0 m0 f0) (hC : -9223372036854775808 ≤ C ∧ C ≤ 9223372036854775807) :
    Calls Tryz.prog 3 #[zoneV x0 A0 m0 c0, .agg #[.int .i64 I, .int .i64 J, .int .i64 C, .int .i64 L, .int .i64 H]] W (RetB W true) := by
  by_cases hl : m0 ≤ 100
  · exact changes_in (zarg_of (N := x0) mc0 hl h0) hl hC
  · exact changes_far hl
end Go.Proofs.YtlddelnbjihhgaaGreatDoor
