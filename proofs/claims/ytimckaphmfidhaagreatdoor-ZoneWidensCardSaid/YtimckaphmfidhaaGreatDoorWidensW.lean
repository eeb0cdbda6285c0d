/- ZoneWidens: the walk. -/
import Derived.Test.YtimckaphmfidhaaGreatDoorRWidenAny
import Derived.Test.YtimckaphmfidhaaGreatDoorGSmall
import Derived.Test.YtimckaphmfidhaaGreatDoorZAlive
import Derived.Test.YtimckaphmfidhaaGreatDoorZVal
import Derived.Test.YtimckaphmfidhaaGreatDoorGRef
import Derived.Test.YtimckaphmfidhaaGreatDoorTwoNew
import Derived.Deep.RegionHeld3
import Derived.BigRegion
import Derived.Deep.RegionHeld
namespace Go.Proofs.YtimckaphmfidhaaGreatDoor
open Go.RowKit
attribute [local go_sem ↓] Go.wp_at_zero Go.wp_at_succ

/-- Behind the first three lines: the boxes. -/
structure WL (w : World) (bx by_ bg mx my mg : Nat) (Rx Ry Rg : Option Mat) (Ax Ay Ag : Option Addr) (lx ly lg cx cy cg : Nat) (W : World) : Prop where
  low : Below w.heap.size w W
  xb : Duo W bx 24 (.int .i64 ((mx : Int) - 1)) (.slice Ax lx cx)
  yb : Duo W by_ 24 (.int .i64 ((my : Int) - 1)) (.slice Ay ly cy)
  gb : Duo W bg 28 (.int .i64 ((mg : Int) - 1)) (.slice Ag lg cg)
  zx : ZRes W 0 mx Rx (zoneV ((mx : Int) - 1) Ax lx cx)
  zy : ZRes W 0 my Ry (zoneV ((my : Int) - 1) Ay ly cy)
  zg : ZRes W 0 mg Rg (zoneV ((mg : Int) - 1) Ag lg cg)
section
variable {w W W1 : World} {bx by_ bg mx my mg : Nat} {Rx Ry Rg : Option Mat} {Ax Ay Ag : Option Addr} {lx ly lg cx cy cg : Nat}
theorem WL.below (h : WL w bx by_ bg mx my mg Rx Ry Rg Ax Ay Ag lx ly lg cx cy cg W) (hb : Below W.heap.size W W1) : WL w bx by_ bg mx my mg Rx Ry Rg Ax Ay Ag lx ly lg cx cy cg W1 :=
  ⟨h.low.trans (hb.mono h.low.size), h.xb.below hb, h.yb.below hb, h.gb.below hb, h.zx.below hb, h.zy.below hb, h.zg.below hb⟩
theorem WL.s (h : WL w bx by_ bg mx my mg Rx Ry Rg Ax Ay Ag lx ly lg cx cy cg W) : (W.cell? ⟨bx, 0, none⟩ = some (.int .i64 ((mx : Int) - 1)) ∧ W.cell? ⟨bx, 1, none⟩ = some (.slice Ax lx cx)) ∧ (W.cell? ⟨by_, 0, none⟩ = some (.int .i64 ((my : Int) - 1)) ∧ W.cell? ⟨by_, 1, none⟩ = some (.slice Ay ly cy)) ∧ W.cell? ⟨bg, 0, none⟩ = some (.int .i64 ((mg : Int) - 1)) ∧ W.cell? ⟨bg, 1, none⟩ = some (.slice Ag lg cg) :=
  ⟨⟨h.xb.cell0, h.xb.cell1⟩, ⟨h.yb.cell0, h.yb.cell1⟩, h.gb.cell0, h.gb.cell1⟩
end
/-- Two zones' boxes, at the start. -/
structure WB (w : World) (Na Nb : Int) (Aa Ab : Option Addr) (la lb ca cb : Nat) (W : World) : Prop where
  low : Below w.heap.size w W
  za : Duo W w.heap.size 24 (.int .i64 Na) (.slice Aa la ca)
  zb : Duo W (w.heap.size + 1) 24 (.int .i64 Nb) (.slice Ab lb cb)
theorem wb_new (w : World) (Na Nb : Int) (Aa Ab : Option Addr) (la lb ca cb : Nat) : WB w Na Nb Aa Ab la lb ca cb ((w.alloc (.cells #[.int .i64 Na, .slice Aa la ca] 24)).alloc (.cells #[.int .i64 Nb, .slice Ab lb cb] 24)) := by
  have k1 := Duo.new (w.alloc (.cells #[.int .i64 Na, .slice Aa la ca] 24)) 24 (.int .i64 Nb) (.slice Ab lb cb)
  rw [World.size_alloc] at k1
  exact ⟨((Below.refl _ w).alloc (Nat.le_refl _) _).alloc (by simp) _, (Duo.new w _ _ _).alloc _, k1⟩
section
variable {w W W1 B : World} {Na Nb : Int} {Aa Ab AX AY Ag : Option Addr} {la lb ca cb bs mx my mg gx gy ba bb base cx cy cg : Nat} {Rx Ry Rg : Option Mat} {sv tv p q : Value}
theorem WB.below (h : WB w Na Nb Aa Ab la lb ca cb W) (hb : Below W.heap.size W W1) : WB w Na Nb Aa Ab la lb ca cb W1 := ⟨h.low.trans (hb.mono h.low.size), h.za.below hb, h.zb.below hb⟩
theorem WB.s (h : WB w Na Nb Aa Ab la lb ca cb W) : (W.cell? ⟨w.heap.size, 0, none⟩ = some (.int .i64 Na) ∧ W.cell? ⟨w.heap.size, 1, none⟩ = some (.slice Aa la ca)) ∧ W.cell? ⟨w.heap.size + 1, 0, none⟩ = some (.int .i64 Nb) ∧ W.cell? ⟨w.heap.size + 1, 1, none⟩ = some (.slice Ab lb cb) := ⟨⟨h.za.cell0, h.za.cell1⟩, h.zb.cell0, h.zb.cell1⟩
theorem duo_apart {W : World} {b c : Nat} {t u : TypeId} {p q r s : Value} (h : Duo W b t p q) (k : Duo W c u r s) (ht : t ≠ u) : b ≠ c := by
  rintro rfl
  have := (show W.heap[b]? = _ from h).symm.trans k
  simp at this
  exact ht this.2
theorem WB.put (h : WB w Na Nb Aa Ab la lb ca cb W) (d : Duo W bs 28 p q) (u v : Value) : (((W.setCell ⟨bs, 0, none⟩ u).setCell ⟨bs, 1, none⟩ v).cell? ⟨w.heap.size, 0, none⟩ = some (.int .i64 Na) ∧ ((W.setCell ⟨bs, 0, none⟩ u).setCell ⟨bs, 1, none⟩ v).cell? ⟨w.heap.size, 1, none⟩ = some (.slice Aa la ca)) ∧ ((W.setCell ⟨bs, 0, none⟩ u).setCell ⟨bs, 1, none⟩ v).cell? ⟨w.heap.size + 1, 0, none⟩ = some (.int .i64 Nb) ∧ ((W.setCell ⟨bs, 0, none⟩ u).setCell ⟨bs, 1, none⟩ v).cell? ⟨w.heap.size + 1, 1, none⟩ = some (.slice Ab lb cb) := by
  have n1 := duo_apart h.za d (by decide)
  have n2 := duo_apart h.zb d (by decide)
  have a := (h.za.other (a := ⟨bs, 0, none⟩) n1 u).other (a := ⟨bs, 1, none⟩) n1 v
  have b := (h.zb.other (a := ⟨bs, 0, none⟩) n2 u).other (a := ⟨bs, 1, none⟩) n2 v
  exact ⟨⟨a.cell0, a.cell1⟩, b.cell0, b.cell1⟩
theorem wl_mk (T : Nr.TwoN B mx my Rx Ry sv tv W gx gy ba bb AX AY cx cy) (hl : Below w.heap.size w W) (d : Duo W bs 28 p q) (hz : ZRes W base mg Rg (zoneV ((mg : Int) - 1) Ag (rlen mg Rg) cg)) (hf : w.heap.size ≤ bs) :
    WL w gx gy bs mx my mg Rx Ry Rg AX AY Ag (rlen mx Rx) (rlen my Ry) (rlen mg Rg) cx cy cg ((W.setCell ⟨bs, 0, none⟩ (.int .i64 ((mg : Int) - 1))).setCell ⟨bs, 1, none⟩ (.slice Ag (rlen mg Rg) cg)) := by
  have n1 := duo_apart T.dg d (by decide)
  have n2 := duo_apart T.dh d (by decide)
  have hd : Nz.Z2 W bs := ⟨p, q, d⟩
  exact ⟨(hl.setCell (p := ⟨bs, 0, none⟩) hf _).setCell (p := ⟨bs, 1, none⟩) hf _, (T.dg.other (a := ⟨bs, 0, none⟩) n1 _).other (a := ⟨bs, 1, none⟩) n1 _, (T.dh.other (a := ⟨bs, 0, none⟩) n2 _).other (a := ⟨bs, 1, none⟩) n2 _, (d.set0 _).set1 _,
    Nz.zput (T.za.lower (Nat.zero_le _)) hd _ _, Nz.zput (T.zb.lower (Nat.zero_le _)) hd _ _, Nz.zput (hz.lower (Nat.zero_le _)) hd _ _⟩
/-- Both, while the fourth line goes. -/
structure WM (w B : World) (Na Nb : Int) (Aa Ab : Option Addr) (la lb ca cb mx my : Nat) (Rx Ry : Option Mat) (sv tv : Value) (gx gy ba bb : Nat) (AX AY : Option Addr) (cx cy : Nat) (W : World) : Prop where
  wb : WB w Na Nb Aa Ab la lb ca cb W
  t : Nr.TwoN B mx my Rx Ry sv tv W gx gy ba bb AX AY cx cy
theorem WM.below (h : WM w B Na Nb Aa Ab la lb ca cb mx my Rx Ry sv tv gx gy ba bb AX AY cx cy W) (hb : Below W.heap.size W W1) : WM w B Na Nb Aa Ab la lb ca cb mx my Rx Ry sv tv gx gy ba bb AX AY cx cy W1 := ⟨h.wb.below hb, h.t.below hb⟩
end
theorem rbot0 (W : World) : Calls Tryz.prog 12 #[.int .i64 0] W (RetC W 1 none) := (rbottom_any 0 W).mono fun e w' ⟨h1, h2⟩ => by
  refine ⟨none, 0, ?_, rfl, h2⟩
  rw [h1, show botN 0 = ((1 : Nat) : Int) - 1 by decide]
  rfl
theorem leqO_left {m n : Nat} {f : Nat → Int} {Ra Rb : Option Mat} (h0 : 0 < m) (hA : ∀ C, Ra = some C → Closed m C) (hB : ∀ B, Rb = some B → Closed m B) : leqO m m Ra (wdO m f n Ra Rb) = true := by
  unfold wdO
  by_cases hle : leqO m m Rb Ra = true
  · rw [if_pos hle]
    cases Ra with
    | none => simp [leqO]
    | some C => simp only [leqO, Bool.and_eq_true]; exact ⟨by trivial, (leB_iff _ _ _).2 fun _ _ _ _ => Int.le_refl _⟩
  · rw [if_neg hle]
    match Ra, Rb, hA, hB, hle with
    | none, R, _, _, _ => simp [leqO]
    | some C, none, _, _, hle => exact absurd (by simp [leqO]) hle
    | some C, some B, hA, hB, hle =>
      have hmv : ∀ k, k < m → (mvS m f n C B (m * m) k = true ↔ Mv m f n C B k) := fun k _ => mvS_all h0 k
      show leqO m m (some C) (setR m (prM (mvS m f n C B (m * m)) f n C B)) = true
      rw [setR_yes (widen_alive hmv (hA C rfl) (hB B rfl) h0)]
      simp only [leqO, Bool.and_eq_true]
      exact ⟨by trivial, (leB_iff _ _ _).2 (widen_left hmv (hA C rfl) (hB B rfl) h0)⟩
theorem leqO_right {m n : Nat} {f : Nat → Int} {Ra Rb : Option Mat} (h0 : 0 < m) (hA : ∀ C, Ra = some C → Closed m C) (hB : ∀ B, Rb = some B → Closed m B) : leqO m m Rb (wdO m f n Ra Rb) = true := by
  unfold wdO
  by_cases hle : leqO m m Rb Ra = true
  · rw [if_pos hle]; exact hle
  · rw [if_neg hle]
    match Ra, Rb, hA, hB, hle with
    | none, none, _, _, _ => simp [leqO]
    | none, some B, _, _, _ => simp only [leqO, Bool.and_eq_true]; exact ⟨by trivial, (leB_iff _ _ _).2 fun _ _ _ _ => Int.le_refl _⟩
    | some C, none, _, _, hle => exact absurd (by simp [leqO]) hle
    | some C, some B, hA, hB, hle =>
      have hmv : ∀ k, k < m → (mvS m f n C B (m * m) k = true ↔ Mv m f n C B k) := fun k _ => mvS_all h0 k
      show leqO m m (some B) (setR m (prM (mvS m f n C B (m * m)) f n C B)) = true
      rw [setR_yes (widen_alive hmv (hA C rfl) (hB B rfl) h0)]
      simp only [leqO, Bool.and_eq_true]
      exact ⟨by trivial, (leB_iff _ _ _).2 (widen_right hmv (hA C rfl) (hB B rfl) h0)⟩
set_option maxRecDepth 100000 in
set_option maxHeartbeats 25600000 in
theorem widens_in {w : World} {Na Nb : Int} {Aa Ab S : Option Addr} {la ca lb cb n cs mx my mg : Nat} {Rx Ry Rg : Option Mat} (g : la ≤ 100) (h : lb ≤ 100) (hs : n ≤ 30)
    (KCa : ∀ W, Below w.heap.size w W → Calls Tryz.prog 8 #[zoneV Na Aa la ca] W (RetC W mx Rx)) (KCb : ∀ W, Below w.heap.size w W → Calls Tryz.prog 8 #[zoneV Nb Ab lb cb] W (RetC W my Ry))
    (KW : ∀ W, Below w.heap.size w W → Calls Tryz.prog 9 #[zoneV Na Aa la ca, zoneV Nb Ab lb cb, .slice S n cs] W (RetC W mg Rg))
    (h0 : 0 < mx) (h7 : mx ≤ 7) (hh : (mx ≠ my ∧ mg = 1 ∧ Rg = none) ∨ (mx = my ∧ mx = mg ∧ leqO mx mx Rx Rg = true ∧ leqO mx mx Ry Rg = true ∧ ∀ W ba bb AX AY cx cy, Below w.heap.size w W → ZRes W ba mx Rx (zoneV ((mx : Int) - 1) AX (rlen mx Rx) cx) → ZRes W bb mx Ry (zoneV ((mx : Int) - 1) AY (rlen mx Ry) cy) →
      Calls Tryz.prog 13 #[zoneV ((mx : Int) - 1) AX (rlen mx Rx) cx, zoneV ((mx : Int) - 1) AY (rlen mx Ry) cy, .slice S n cs] W (fun e w' => ∃ A c base, e = .returned (zoneV ((mx : Int) - 1) A (rlen mx Rg) c) ∧ ZRes w' base mx Rg (zoneV ((mx : Int) - 1) A (rlen mx Rg) c) ∧ Below W.heap.size W w'))) :
    Calls Tryz.prog 3 #[zoneV Na Aa la ca, zoneV Nb Ab lb cb, .slice S n cs] w (RetB w true) := by
  have M := Lib.hid (wb_new w Na Nb Aa Ab la lb ca cb)
  have HFa : Hid (∀ W, Calls Tryz.prog 6 #[zoneV Na Aa la ca] W (RetB W true)) := Lib.hid fun W => by
    have := few_any W Na Aa la ca
    rw [decide_eq_true g] at this
    exact this
  have HFb : Hid (∀ W, Calls Tryz.prog 6 #[zoneV Nb Ab lb cb] W (RetB W true)) := Lib.hid fun W => by
    have := few_any W Nb Ab lb cb
    rw [decide_eq_true h] at this
    exact this
  have d1 : decide (30 < (n : Int)) = false := decide_eq_false (by omega)
  have HK := Lib.hid (And.intro KCa (And.intro KCb KW))
  have HH := Lib.hid hh
  have H07 := Lib.hid (And.intro h0 h7)
  obtain ⟨⟨a0, a1⟩, a2, a3⟩ := M.out.s
  have a4 := M.out.za.lt
  have a5 := M.out.zb.lt
  clear g h hs KCa KCb KW hh h0 h7
  go_enter Tryz.func3, Tryz.ntmps3
  go_wp2_with (first
    | (go_at_call 6; ((with_reducible refine (HFa.out _).mono ?_); rintro e w1 ⟨rfl, hb1⟩); have M1 := Lib.hid (M.out.below hb1); obtain ⟨⟨a0, a1⟩, a2, a3⟩ := M1.out.s; have a4 := M1.out.za.lt; have a5 := M1.out.zb.lt; clear hb1)
    | (go_at_call 6; ((with_reducible refine (HFb.out _).mono ?_); rintro e w2 ⟨rfl, hb2⟩); have M2 := Lib.hid (M1.out.below hb2); obtain ⟨⟨a0, a1⟩, a2, a3⟩ := M2.out.s; have a4 := M2.out.za.lt; have a5 := M2.out.zb.lt; clear hb2))
  have HCa := Lib.hid (fun (W : World) (hb : Below w2.heap.size w2 W) => HK.out.1 W (M2.out.low.trans (hb.mono M2.out.low.size)))
  have HCb := Lib.hid (fun (W : World) (hb : Below w2.heap.size w2 W) => HK.out.2.1 W (M2.out.low.trans (hb.mono M2.out.low.size)))
  have CUR : Hid (Nr.ST w2 w.heap.size (w.heap.size + 1) (.int .i64 Na) (.slice Aa la ca) (.int .i64 Nb) (.slice Ab lb cb) mx my Rx Ry none none none none w2) := Lib.hid (Nr.st_new ⟨Below.refl _ _, M2.out.s.1.1, M2.out.s.1.2, M2.out.s.2.1, M2.out.s.2.2, M2.out.za.lt, M2.out.zb.lt⟩)
  go_cut [7, 8] (fun s t wx => Nr.Two w2 mx my Rx Ry s t wx)
  case first =>
    go_region_held3 (fun w' => Below w2.heap.size w2 w' ∧ w'.cell? ⟨w.heap.size, 0, none⟩ = some (.int .i64 Na) ∧ w'.cell? ⟨w.heap.size, 1, none⟩ = some (.slice Aa la ca) ∧ w'.cell? ⟨w.heap.size + 1, 0, none⟩ = some (.int .i64 Nb) ∧ w'.cell? ⟨w.heap.size + 1, 1, none⟩ = some (.slice Ab lb cb) ∧ w.heap.size < w2.heap.size ∧ w.heap.size + 1 < w2.heap.size)
      (repeat (first | (with_reducible exact CUR.out.s.conj) | (with_reducible refine Nr.kb_drew ?_) | (with_reducible refine Nr.kb_alloc _ ?_) | ((with_reducible refine Nr.kb_set _ ?_ ?_); (dsimp only); (first | (exact (CUR.out.one _ rfl).2) | (exact (CUR.out.two _ rfl).2) | (exact CUR.out.s.1.size) | (exact Nat.le_succ_of_le CUR.out.s.1.size)))))
      (first
        | (go_at_call 8; ((with_reducible refine (Nr.st_one HCa.out CUR.out).mono ?_); rintro e w1 ⟨A3, c3, rfl, hS⟩); have CUR := Lib.hid hS; clear hS)
        | (go_at_call 8; ((with_reducible refine (Nr.st_one HCa.out CUR.out.mk1).mono ?_); rintro e w1 ⟨A3, c3, rfl, hS⟩); have CUR := Lib.hid hS; clear hS)
        | (go_at_call 8; ((with_reducible refine (Nr.st_one HCa.out CUR.out.mk2).mono ?_); rintro e w1 ⟨A3, c3, rfl, hS⟩); have CUR := Lib.hid hS; clear hS)
        | (go_at_call 8; ((with_reducible refine (Nr.st_one HCa.out CUR.out.mk12x).mono ?_); rintro e w1 ⟨A3, c3, rfl, hS⟩); have CUR := Lib.hid hS; clear hS)
        | (go_at_call 8; ((with_reducible refine (Nr.st_one HCa.out CUR.out.dr).mono ?_); rintro e w1 ⟨A3, c3, rfl, hS⟩); have CUR := Lib.hid hS; clear hS)
        | (go_at_call 8; ((with_reducible refine (Nr.st_one HCa.out CUR.out.mk1d).mono ?_); rintro e w1 ⟨A3, c3, rfl, hS⟩); have CUR := Lib.hid hS; clear hS)
        | (go_at_call 8; ((with_reducible refine (Nr.st_one HCa.out CUR.out.mk12x.dr).mono ?_); rintro e w1 ⟨A3, c3, rfl, hS⟩); have CUR := Lib.hid hS; clear hS)
        | (go_at_call 8; ((with_reducible refine (Nr.st_two HCb.out CUR.out).mono ?_); rintro e w1 ⟨A6, c6, rfl, hS⟩); have CUR := Lib.hid hS; clear hS; (try (obtain ⟨p1, q1, D1⟩ := (CUR.out.one _ rfl).1; have d1 := D1.lt; have d2 := D1.frozen0; have d3 := D1.frozen1; have d4 := D1.cell0; have d5 := D1.cell1; clear D1)); (try (obtain ⟨p2, q2, D2⟩ := (CUR.out.two _ rfl).1; have e1 := D2.lt; have e2 := D2.frozen0; have e3 := D2.frozen1; have e4 := D2.cell0; have e5 := D2.cell1; clear D2)); (try (have ne := CUR.out.ne _ _ rfl rfl)))
        | (go_at_call 8; ((with_reducible refine (Nr.st_two HCb.out CUR.out.mk1).mono ?_); rintro e w1 ⟨A6, c6, rfl, hS⟩); have CUR := Lib.hid hS; clear hS; (try (obtain ⟨p1, q1, D1⟩ := (CUR.out.one _ rfl).1; have d1 := D1.lt; have d2 := D1.frozen0; have d3 := D1.frozen1; have d4 := D1.cell0; have d5 := D1.cell1; clear D1)); (try (obtain ⟨p2, q2, D2⟩ := (CUR.out.two _ rfl).1; have e1 := D2.lt; have e2 := D2.frozen0; have e3 := D2.frozen1; have e4 := D2.cell0; have e5 := D2.cell1; clear D2)); (try (have ne := CUR.out.ne _ _ rfl rfl)))
        | (go_at_call 8; ((with_reducible refine (Nr.st_two HCb.out CUR.out.mk2).mono ?_); rintro e w1 ⟨A6, c6, rfl, hS⟩); have CUR := Lib.hid hS; clear hS; (try (obtain ⟨p1, q1, D1⟩ := (CUR.out.one _ rfl).1; have d1 := D1.lt; have d2 := D1.frozen0; have d3 := D1.frozen1; have d4 := D1.cell0; have d5 := D1.cell1; clear D1)); (try (obtain ⟨p2, q2, D2⟩ := (CUR.out.two _ rfl).1; have e1 := D2.lt; have e2 := D2.frozen0; have e3 := D2.frozen1; have e4 := D2.cell0; have e5 := D2.cell1; clear D2)); (try (have ne := CUR.out.ne _ _ rfl rfl)))
        | (go_at_call 8; ((with_reducible refine (Nr.st_two HCb.out CUR.out.mk12x).mono ?_); rintro e w1 ⟨A6, c6, rfl, hS⟩); have CUR := Lib.hid hS; clear hS; (try (obtain ⟨p1, q1, D1⟩ := (CUR.out.one _ rfl).1; have d1 := D1.lt; have d2 := D1.frozen0; have d3 := D1.frozen1; have d4 := D1.cell0; have d5 := D1.cell1; clear D1)); (try (obtain ⟨p2, q2, D2⟩ := (CUR.out.two _ rfl).1; have e1 := D2.lt; have e2 := D2.frozen0; have e3 := D2.frozen1; have e4 := D2.cell0; have e5 := D2.cell1; clear D2)); (try (have ne := CUR.out.ne _ _ rfl rfl)))
        | (go_at_call 8; ((with_reducible refine (Nr.st_two HCb.out CUR.out.dr).mono ?_); rintro e w1 ⟨A6, c6, rfl, hS⟩); have CUR := Lib.hid hS; clear hS; (try (obtain ⟨p1, q1, D1⟩ := (CUR.out.one _ rfl).1; have d1 := D1.lt; have d2 := D1.frozen0; have d3 := D1.frozen1; have d4 := D1.cell0; have d5 := D1.cell1; clear D1)); (try (obtain ⟨p2, q2, D2⟩ := (CUR.out.two _ rfl).1; have e1 := D2.lt; have e2 := D2.frozen0; have e3 := D2.frozen1; have e4 := D2.cell0; have e5 := D2.cell1; clear D2)); (try (have ne := CUR.out.ne _ _ rfl rfl)))
        | (go_at_call 8; ((with_reducible refine (Nr.st_two HCb.out CUR.out.mk1d).mono ?_); rintro e w1 ⟨A6, c6, rfl, hS⟩); have CUR := Lib.hid hS; clear hS; (try (obtain ⟨p1, q1, D1⟩ := (CUR.out.one _ rfl).1; have d1 := D1.lt; have d2 := D1.frozen0; have d3 := D1.frozen1; have d4 := D1.cell0; have d5 := D1.cell1; clear D1)); (try (obtain ⟨p2, q2, D2⟩ := (CUR.out.two _ rfl).1; have e1 := D2.lt; have e2 := D2.frozen0; have e3 := D2.frozen1; have e4 := D2.cell0; have e5 := D2.cell1; clear D2)); (try (have ne := CUR.out.ne _ _ rfl rfl)))
        | (go_at_call 8; ((with_reducible refine (Nr.st_two HCb.out CUR.out.mk12x.dr).mono ?_); rintro e w1 ⟨A6, c6, rfl, hS⟩); have CUR := Lib.hid hS; clear hS; (try (obtain ⟨p1, q1, D1⟩ := (CUR.out.one _ rfl).1; have d1 := D1.lt; have d2 := D1.frozen0; have d3 := D1.frozen1; have d4 := D1.cell0; have d5 := D1.cell1; clear D1)); (try (obtain ⟨p2, q2, D2⟩ := (CUR.out.two _ rfl).1; have e1 := D2.lt; have e2 := D2.frozen0; have e3 := D2.frozen1; have e4 := D2.cell0; have e5 := D2.cell1; clear D2)); (try (have ne := CUR.out.ne _ _ rfl rfl))))
    all_goals go_wp2_with fail
    all_goals go_meet
    all_goals (first | (with_reducible exact Nr.st_end CUR.out) | (with_reducible exact Nr.st_end2 CUR.out) | (with_reducible exact Nr.st_end3 CUR.out) | (with_reducible exact Nr.st_end4 CUR.out) | (with_reducible exact Nr.st_end5 CUR.out) | (with_reducible exact Nr.st_end6 CUR.out) | (with_reducible exact (Nr.st_end CUR.out).dr) | (with_reducible exact (Nr.st_end2 CUR.out).dr) | (with_reducible exact (Nr.st_end3 CUR.out).dr) | (with_reducible exact (Nr.st_end4 CUR.out).dr) | (with_reducible exact (Nr.st_end5 CUR.out).dr) | (with_reducible exact (Nr.st_end6 CUR.out).dr))
  case rest =>
    obtain ⟨gx, gy, bx, by_, AX, AY, cx, cy, hT⟩ := hcut
    obtain ⟨wo, hwo⟩ : ∃ wo, wo = wc := ⟨_, rfl⟩
    rw [← hwo] at hT ⊢
    clear hwo
    obtain rfl := hT.es
    obtain rfl := hT.et
    have hM0 : WM w w2 Na Nb Aa Ab la lb ca cb mx my Rx Ry (.pointer (some ⟨gx, 0, none⟩)) (.pointer (some ⟨gy, 0, none⟩)) gx gy bx by_ AX AY cx cy wo := ⟨M2.out.below hT.low, hT⟩
    have M0 := Lib.hid (hM0.below (Below.refl _ _).drew)
    clear hT hM0 CUR HCa HCb a0 a1 a2 a3 a4 a5
    have HW4 := Lib.hid (fun (W : World) (hb : Below w.heap.size w W) => HK.out.2.2 W hb)
    go_wp2_with fail
    go_cut [9] (fun t wx => ∃ bg Ag cg, t = .pointer (some ⟨bg, 0, none⟩) ∧ WL w gx gy bg mx my mg Rx Ry Rg AX AY Ag (rlen mx Rx) (rlen my Ry) (rlen mg Rg) cx cy cg wx)
    case first =>
      refine wp_region_held_drew (S := fun w' => (w'.cell? ⟨w.heap.size, 0, none⟩ = some (.int .i64 Na) ∧ w'.cell? ⟨w.heap.size, 1, none⟩ = some (.slice Aa la ca)) ∧ w'.cell? ⟨w.heap.size + 1, 0, none⟩ = some (.int .i64 Nb) ∧ w'.cell? ⟨w.heap.size + 1, 1, none⟩ = some (.slice Ab lb cb)) (by kernel_rfl) M0.out.wb.s (fun hH0 => ?_)
      refine wpAnyH_take (i := 0) (oi := ⟨some 28, _, _, _, _, _⟩) (v := ?_) rfl (by kernel_rfl) (by kernel_rfl) (by kernel_rfl) (fun _ _ _ h => h) (Or.inl ⟨by rfl, ?_⟩) hH0 ?_
      rotate_left
      · intro w hSw
        try dsimp only at hSw
        go_simp
        try with_reducible rfl
      try simp only [Act.put, List.setIfInBounds_toArray, List.set_cons_zero, List.set_cons_succ]
      refine wpAnyH_take (i := 2) (oi := ⟨some 30, _, _, _, _, _⟩) (v := ?_) rfl (by kernel_rfl) (by kernel_rfl) (by kernel_rfl) (fun _ _ _ h => h) (Or.inl ⟨by rfl, ?_⟩) hH0 ?_
      rotate_left
      · intro w hSw
        try dsimp only at hSw
        go_simp
        try with_reducible rfl
      try simp only [Act.put, List.setIfInBounds_toArray, List.set_cons_zero, List.set_cons_succ]
      refine wpAnyH_take (i := 4) (oi := ⟨some 32, _, _, _, _, _⟩) (v := ?_) rfl (by kernel_rfl) (by kernel_rfl) (by kernel_rfl) (fun _ _ _ h => h) (Or.inl ⟨by rfl, ?_⟩) hH0 ?_
      rotate_left
      · intro w hSw
        try dsimp only at hSw
        go_simp
        try with_reducible rfl
      try simp only [Act.put, List.setIfInBounds_toArray, List.set_cons_zero, List.set_cons_succ]
      refine wpAnyH_ready (rs := [1, 6]) (by kernel_rfl) (by simp) ?_
      refine (AllReadyH.cons (o := ⟨some 29, _, _, _, _, _⟩) rfl (fun K hK => ?_) (AllReadyH.cons (o := ⟨some 9, _, _, _, _, _⟩) rfl (fun K hK => ?_) AllReadyH.nil))
      · go_simp
        refine (of_zone _ Na Aa la ca).mono ?_
        rintro e w1 ⟨rfl, hb1⟩
        have M1 := Lib.hid (M0.out.below hb1)
        clear hb1
        go_wp2_with fail
        refine hK.out _ _ (M1.out.wb.s) (fun h1 => ?_)
        clear hK K
        try simp only [Act.put, List.setIfInBounds_toArray, List.set_cons_zero, List.set_cons_succ]
        refine wpAnyH_ready (rs := [3, 6]) (by kernel_rfl) (by simp) ?_
        refine (AllReadyH.cons (o := ⟨some 31, _, _, _, _, _⟩) rfl (fun K hK => ?_) (AllReadyH.cons (o := ⟨some 9, _, _, _, _, _⟩) rfl (fun K hK => ?_) AllReadyH.nil))
        · go_simp
          refine (of_zone _ Nb Ab lb cb).mono ?_
          rintro e w2 ⟨rfl, hb2⟩
          have M2 := Lib.hid (M1.out.below hb2)
          clear hb2
          go_wp2_with fail
          refine hK.out _ _ (M2.out.wb.s) (fun h2 => ?_)
          clear hK K
          try simp only [Act.put, List.setIfInBounds_toArray, List.set_cons_zero, List.set_cons_succ]
          refine wpAnyH_ready (rs := [5, 6]) (by kernel_rfl) (by simp) ?_
          refine (AllReadyH.cons (o := ⟨some 33, _, _, _, _, _⟩) rfl (fun K hK => ?_) (AllReadyH.cons (o := ⟨some 9, _, _, _, _, _⟩) rfl (fun K hK => ?_) AllReadyH.nil))
          · go_simp
            refine (HW4.out _ M2.out.wb.low).mono ?_
            rintro e w3 ⟨A8, c8, rfl, hz8, hb3⟩
            have M3 := Lib.hid (M2.out.below hb3)
            have Z8 := Lib.hid hz8
            clear hz8
            clear hb3
            go_wp2_with fail
            refine hK.out _ _ (M3.out.wb.s) (fun h3 => ?_)
            clear hK K
            try simp only [Act.put, List.setIfInBounds_toArray, List.set_cons_zero, List.set_cons_succ]
            refine wpAnyH_ready (rs := [6]) (by kernel_rfl) (by simp) ?_
            refine (AllReadyH.cons (o := ⟨some 9, _, _, _, _, _⟩) rfl (fun K hK => ?_) AllReadyH.nil)
            have M5 := Lib.hid (M3.out.below (zboxed _ (.cells #[.int .i64 0, .slice none 0 0] 28)))
            have D5 := Lib.hid (Duo.new w3 28 (.int .i64 0) (.slice none 0 0))
            have F5 : Hid (w.heap.size ≤ w3.heap.size) := Lib.hid M3.out.wb.low.size
            have Z8 := Lib.hid (Z8.out.below (zboxed _ (.cells #[.int .i64 0, .slice none 0 0] 28)))
            go_simp
            refine hK.out _ _ (M5.out.wb.s) (fun h5 => ?_)
            clear hK K
            try simp only [Act.put, List.setIfInBounds_toArray, List.set_cons_zero, List.set_cons_succ]
            obtain ⟨bs, hbs⟩ : ∃ x, w3.heap.size = x := ⟨_, rfl⟩
            have F5 : Hid (w.heap.size ≤ bs) := Lib.hid (by rw [← hbs]; exact F5.out)
            have D5 : Hid (Duo _ bs _ _ _) := Lib.hid (by rw [← hbs]; exact D5.out)
            rw [hbs]
            clear hbs
            refine wpAnyH_ready (rs := [7]) (by kernel_rfl) (by simp) ?_
            refine (AllReadyH.cons (o := ⟨none, _, _, _, _, _⟩) rfl (fun K hK => ?_) AllReadyH.nil)
            have y0 := D5.out.cell0
            have y1 := D5.out.cell1
            have y2 := D5.out.frozen0
            have y3 := D5.out.frozen1
            have y4 := D5.out.lt
            go_simp
            have MF := Lib.hid (wl_mk M5.out.t M5.out.wb.low D5.out Z8.out F5.out)
            have MB := Lib.hid (M5.out.wb.put D5.out (.int .i64 ((mg : Int) - 1)) (.slice A8 (rlen mg Rg) c8))
            refine hK.out _ _ (MB.out) (fun hF => ?_)
            clear hK K
            try simp only [Act.put, List.setIfInBounds_toArray, List.set_cons_zero, List.set_cons_succ]
            clear y0 y1 y2 y3 y4
            refine wpAnyH_done (by kernel_rfl) ?_ _
            go_wp2_with fail
            go_meet
            exact ⟨bs, A8, c8, rfl, by first | exact MF.out | exact MF.out.below (Below.refl _ _).drew⟩
          · have M7 := Lib.hid (M2.out.below (zboxed _ (.cells #[.int .i64 0, .slice none 0 0] 28)))
            have D7 := Lib.hid (Duo.new w2 28 (.int .i64 0) (.slice none 0 0))
            have F7 : Hid (w.heap.size ≤ w2.heap.size) := Lib.hid M2.out.wb.low.size
            go_simp
            refine hK.out _ _ (M7.out.wb.s) (fun h7 => ?_)
            clear hK K
            try simp only [Act.put, List.setIfInBounds_toArray, List.set_cons_zero, List.set_cons_succ]
            obtain ⟨bs, hbs⟩ : ∃ x, w2.heap.size = x := ⟨_, rfl⟩
            have F7 : Hid (w.heap.size ≤ bs) := Lib.hid (by rw [← hbs]; exact F7.out)
            have D7 : Hid (Duo _ bs _ _ _) := Lib.hid (by rw [← hbs]; exact D7.out)
            rw [hbs]
            clear hbs
            refine wpAnyH_ready (rs := [5]) (by kernel_rfl) (by simp) ?_
            refine (AllReadyH.cons (o := ⟨some 33, _, _, _, _, _⟩) rfl (fun K hK => ?_) AllReadyH.nil)
            go_simp
            refine (HW4.out _ M7.out.wb.low).mono ?_
            rintro e w8 ⟨A8, c8, rfl, hz8, hb8⟩
            have M8 := Lib.hid (M7.out.below hb8)
            have Z8 := Lib.hid hz8
            clear hz8
            have D8 := Lib.hid (D7.out.below hb8)
            clear hb8
            go_wp2_with fail
            refine hK.out _ _ (M8.out.wb.s) (fun h8 => ?_)
            clear hK K
            try simp only [Act.put, List.setIfInBounds_toArray, List.set_cons_zero, List.set_cons_succ]
            refine wpAnyH_ready (rs := [7]) (by kernel_rfl) (by simp) ?_
            refine (AllReadyH.cons (o := ⟨none, _, _, _, _, _⟩) rfl (fun K hK => ?_) AllReadyH.nil)
            have y0 := D8.out.cell0
            have y1 := D8.out.cell1
            have y2 := D8.out.frozen0
            have y3 := D8.out.frozen1
            have y4 := D8.out.lt
            go_simp
            have MF := Lib.hid (wl_mk M8.out.t M8.out.wb.low D8.out Z8.out F7.out)
            have MB := Lib.hid (M8.out.wb.put D8.out (.int .i64 ((mg : Int) - 1)) (.slice A8 (rlen mg Rg) c8))
            refine hK.out _ _ (MB.out) (fun hF => ?_)
            clear hK K
            try simp only [Act.put, List.setIfInBounds_toArray, List.set_cons_zero, List.set_cons_succ]
            clear y0 y1 y2 y3 y4
            refine wpAnyH_done (by kernel_rfl) ?_ _
            go_wp2_with fail
            go_meet
            exact ⟨bs, A8, c8, rfl, by first | exact MF.out | exact MF.out.below (Below.refl _ _).drew⟩
        · have M10 := Lib.hid (M1.out.below (zboxed _ (.cells #[.int .i64 0, .slice none 0 0] 28)))
          have D10 := Lib.hid (Duo.new w1 28 (.int .i64 0) (.slice none 0 0))
          have F10 : Hid (w.heap.size ≤ w1.heap.size) := Lib.hid M1.out.wb.low.size
          go_simp
          refine hK.out _ _ (M10.out.wb.s) (fun h10 => ?_)
          clear hK K
          try simp only [Act.put, List.setIfInBounds_toArray, List.set_cons_zero, List.set_cons_succ]
          obtain ⟨bs, hbs⟩ : ∃ x, w1.heap.size = x := ⟨_, rfl⟩
          have F10 : Hid (w.heap.size ≤ bs) := Lib.hid (by rw [← hbs]; exact F10.out)
          have D10 : Hid (Duo _ bs _ _ _) := Lib.hid (by rw [← hbs]; exact D10.out)
          rw [hbs]
          clear hbs
          refine wpAnyH_ready (rs := [3]) (by kernel_rfl) (by simp) ?_
          refine (AllReadyH.cons (o := ⟨some 31, _, _, _, _, _⟩) rfl (fun K hK => ?_) AllReadyH.nil)
          go_simp
          refine (of_zone _ Nb Ab lb cb).mono ?_
          rintro e w11 ⟨rfl, hb11⟩
          have M11 := Lib.hid (M10.out.below hb11)
          have D11 := Lib.hid (D10.out.below hb11)
          clear hb11
          go_wp2_with fail
          refine hK.out _ _ (M11.out.wb.s) (fun h11 => ?_)
          clear hK K
          try simp only [Act.put, List.setIfInBounds_toArray, List.set_cons_zero, List.set_cons_succ]
          refine wpAnyH_ready (rs := [5]) (by kernel_rfl) (by simp) ?_
          refine (AllReadyH.cons (o := ⟨some 33, _, _, _, _, _⟩) rfl (fun K hK => ?_) AllReadyH.nil)
          go_simp
          refine (HW4.out _ M11.out.wb.low).mono ?_
          rintro e w12 ⟨A8, c8, rfl, hz8, hb12⟩
          have M12 := Lib.hid (M11.out.below hb12)
          have Z8 := Lib.hid hz8
          clear hz8
          have D12 := Lib.hid (D11.out.below hb12)
          clear hb12
          go_wp2_with fail
          refine hK.out _ _ (M12.out.wb.s) (fun h12 => ?_)
          clear hK K
          try simp only [Act.put, List.setIfInBounds_toArray, List.set_cons_zero, List.set_cons_succ]
          refine wpAnyH_ready (rs := [7]) (by kernel_rfl) (by simp) ?_
          refine (AllReadyH.cons (o := ⟨none, _, _, _, _, _⟩) rfl (fun K hK => ?_) AllReadyH.nil)
          have y0 := D12.out.cell0
          have y1 := D12.out.cell1
          have y2 := D12.out.frozen0
          have y3 := D12.out.frozen1
          have y4 := D12.out.lt
          go_simp
          have MF := Lib.hid (wl_mk M12.out.t M12.out.wb.low D12.out Z8.out F10.out)
          have MB := Lib.hid (M12.out.wb.put D12.out (.int .i64 ((mg : Int) - 1)) (.slice A8 (rlen mg Rg) c8))
          refine hK.out _ _ (MB.out) (fun hF => ?_)
          clear hK K
          try simp only [Act.put, List.setIfInBounds_toArray, List.set_cons_zero, List.set_cons_succ]
          clear y0 y1 y2 y3 y4
          refine wpAnyH_done (by kernel_rfl) ?_ _
          go_wp2_with fail
          go_meet
          exact ⟨bs, A8, c8, rfl, by first | exact MF.out | exact MF.out.below (Below.refl _ _).drew⟩
      · have M14 := Lib.hid (M0.out.below (zboxed _ (.cells #[.int .i64 0, .slice none 0 0] 28)))
        have D14 := Lib.hid (Duo.new wo.drew 28 (.int .i64 0) (.slice none 0 0))
        have F14 : Hid (w.heap.size ≤ wo.drew.heap.size) := Lib.hid M0.out.wb.low.size
        go_simp
        refine hK.out _ _ (M14.out.wb.s) (fun h14 => ?_)
        clear hK K
        try simp only [Act.put, List.setIfInBounds_toArray, List.set_cons_zero, List.set_cons_succ]
        obtain ⟨bs, hbs⟩ : ∃ x, wo.heap.size = x := ⟨_, rfl⟩
        have F14 : Hid (w.heap.size ≤ bs) := Lib.hid (by rw [← hbs]; exact F14.out)
        have D14 : Hid (Duo _ bs _ _ _) := Lib.hid (by rw [← hbs]; exact D14.out)
        rw [hbs]
        clear hbs
        refine wpAnyH_ready (rs := [1]) (by kernel_rfl) (by simp) ?_
        refine (AllReadyH.cons (o := ⟨some 29, _, _, _, _, _⟩) rfl (fun K hK => ?_) AllReadyH.nil)
        go_simp
        refine (of_zone _ Na Aa la ca).mono ?_
        rintro e w15 ⟨rfl, hb15⟩
        have M15 := Lib.hid (M14.out.below hb15)
        have D15 := Lib.hid (D14.out.below hb15)
        clear hb15
        go_wp2_with fail
        refine hK.out _ _ (M15.out.wb.s) (fun h15 => ?_)
        clear hK K
        try simp only [Act.put, List.setIfInBounds_toArray, List.set_cons_zero, List.set_cons_succ]
        refine wpAnyH_ready (rs := [3]) (by kernel_rfl) (by simp) ?_
        refine (AllReadyH.cons (o := ⟨some 31, _, _, _, _, _⟩) rfl (fun K hK => ?_) AllReadyH.nil)
        go_simp
        refine (of_zone _ Nb Ab lb cb).mono ?_
        rintro e w16 ⟨rfl, hb16⟩
        have M16 := Lib.hid (M15.out.below hb16)
        have D16 := Lib.hid (D15.out.below hb16)
        clear hb16
        go_wp2_with fail
        refine hK.out _ _ (M16.out.wb.s) (fun h16 => ?_)
        clear hK K
        try simp only [Act.put, List.setIfInBounds_toArray, List.set_cons_zero, List.set_cons_succ]
        refine wpAnyH_ready (rs := [5]) (by kernel_rfl) (by simp) ?_
        refine (AllReadyH.cons (o := ⟨some 33, _, _, _, _, _⟩) rfl (fun K hK => ?_) AllReadyH.nil)
        go_simp
        refine (HW4.out _ M16.out.wb.low).mono ?_
        rintro e w17 ⟨A8, c8, rfl, hz8, hb17⟩
        have M17 := Lib.hid (M16.out.below hb17)
        have Z8 := Lib.hid hz8
        clear hz8
        have D17 := Lib.hid (D16.out.below hb17)
        clear hb17
        go_wp2_with fail
        refine hK.out _ _ (M17.out.wb.s) (fun h17 => ?_)
        clear hK K
        try simp only [Act.put, List.setIfInBounds_toArray, List.set_cons_zero, List.set_cons_succ]
        refine wpAnyH_ready (rs := [7]) (by kernel_rfl) (by simp) ?_
        refine (AllReadyH.cons (o := ⟨none, _, _, _, _, _⟩) rfl (fun K hK => ?_) AllReadyH.nil)
        have y0 := D17.out.cell0
        have y1 := D17.out.cell1
        have y2 := D17.out.frozen0
        have y3 := D17.out.frozen1
        have y4 := D17.out.lt
        go_simp
        have MF := Lib.hid (wl_mk M17.out.t M17.out.wb.low D17.out Z8.out F14.out)
        have MB := Lib.hid (M17.out.wb.put D17.out (.int .i64 ((mg : Int) - 1)) (.slice A8 (rlen mg Rg) c8))
        refine hK.out _ _ (MB.out) (fun hF => ?_)
        clear hK K
        try simp only [Act.put, List.setIfInBounds_toArray, List.set_cons_zero, List.set_cons_succ]
        clear y0 y1 y2 y3 y4
        refine wpAnyH_done (by kernel_rfl) ?_ _
        go_wp2_with fail
        go_meet
        exact ⟨bs, A8, c8, rfl, by first | exact MF.out | exact MF.out.below (Below.refl _ _).drew⟩
    case rest =>
      obtain ⟨bg, Ag, cg, ht, hL⟩ := hcut
      subst ht
      obtain ⟨wp, hwp⟩ : ∃ x, x = wc := ⟨_, rfl⟩
      rw [← hwp] at hL ⊢
      clear hwp
      have L0 := Lib.hid (hL.below (Below.refl _ _).drew)
      have u0 := hL.xb.cell0
      have u1 := hL.yb.cell0
      clear hL M0 HW4
      rcases HH.out with ⟨hne, hg1, hgn⟩ | ⟨hm1, hm2, q1, q2, KR⟩
      · have hn1 : ((mx : Int) - 1 == (my : Int) - 1) = false := by simp; omega
        have hn2 : decide ((mx : Int) - 1 = (my : Int) - 1) = false := decide_eq_false (by omega)
        have HBt : Hid (∀ W, Calls Tryz.prog 12 #[.int .i64 0] W (fun e w' => ∃ A c base, e = .returned (zoneV ((mg : Int) - 1) A (rlen mg Rg) c) ∧ ZRes w' base mg Rg (zoneV ((mg : Int) - 1) A (rlen mg Rg) c) ∧ Below W.heap.size W w')) := Lib.hid fun W => by
          subst hg1 hgn
          exact (rbot0 W).mono fun _ _ ⟨A, c, h1, h2, h3⟩ => ⟨A, c, _, h1, h2, h3⟩
        have HSm : Hid (∀ W ba bb A1 c1 A2 c2, ZRes W ba mg Rg (zoneV ((mg : Int) - 1) A1 (rlen mg Rg) c1) → ZRes W bb mg Rg (zoneV ((mg : Int) - 1) A2 (rlen mg Rg) c2) → Calls Tryz.prog 11 #[zoneV ((mg : Int) - 1) A1 (rlen mg Rg) c1, zoneV ((mg : Int) - 1) A2 (rlen mg Rg) c2] W (RetB W true)) := Lib.hid fun W ba bb A1 c1 A2 c2 z1 z2 => lsame_any (by omega) z1 z2
        clear hne hg1 hgn HH
        go_wp2_with fail
        refine wp_region_held_drew (S := fun w' => (w'.cell? ⟨gx, 0, none⟩ = some (.int .i64 ((mx : Int) - 1)) ∧ w'.cell? ⟨gx, 1, none⟩ = some (.slice AX (rlen mx Rx) cx)) ∧ (w'.cell? ⟨gy, 0, none⟩ = some (.int .i64 ((my : Int) - 1)) ∧ w'.cell? ⟨gy, 1, none⟩ = some (.slice AY (rlen my Ry) cy)) ∧ w'.cell? ⟨bg, 0, none⟩ = some (.int .i64 ((mg : Int) - 1)) ∧ w'.cell? ⟨bg, 1, none⟩ = some (.slice Ag (rlen mg Rg) cg)) (by kernel_rfl) (L0.out.s) (fun hH0 => ?_)
        refine wpAnyH_ready (rs := [0]) (by kernel_rfl) (by simp) ?_
        refine AllReadyH.cons (o := ⟨some 39, _, _, _, _, _⟩) rfl (fun K hK => ?_) AllReadyH.nil
        go_simp
        refine (alive_any _).mono ?_
        rintro e w1 ⟨rfl, hb1⟩
        have L1 := Lib.hid (L0.out.below hb1); clear hb1
        go_wp2_with fail
        refine hK.out _ _ (L1.out.s) (fun hH1 => ?_)
        clear hK K hH0
        try simp only [Act.put, List.setIfInBounds_toArray, List.set_cons_zero, List.set_cons_succ]
        refine wpAnyH_take (i := 1) (oi := ⟨some 40, _, _, _, _, _⟩) (v := ?_) rfl (by kernel_rfl) (by kernel_rfl) (by kernel_rfl) (fun _ _ _ h => h) (Or.inl ⟨by rfl, ?_⟩) hH1 ?_
        rotate_left
        · intro w hSw
          try dsimp only at hSw
          go_simp
          try with_reducible rfl
        try simp only [Act.put, List.setIfInBounds_toArray, List.set_cons_zero, List.set_cons_succ]
        refine wpAnyH_take (i := 2) (oi := ⟨some 41, _, _, _, _, _⟩) (v := ?_) rfl (by kernel_rfl) (by kernel_rfl) (by kernel_rfl) (fun _ _ _ h => h) (Or.inl ⟨by rfl, ?_⟩) hH1 ?_
        rotate_left
        · intro w hSw
          try dsimp only at hSw
          go_simp
          try with_reducible rfl
        try simp only [Act.put, List.setIfInBounds_toArray, List.set_cons_zero, List.set_cons_succ]
        refine wpAnyH_ready (rs := [3]) (by kernel_rfl) (by simp) ?_
        refine AllReadyH.cons (o := ⟨some 42, _, _, _, _, _⟩) rfl (fun K hK => ?_) AllReadyH.nil
        go_simp
        refine (HBt.out _).mono ?_
        rintro e w2 ⟨A2, c2, b2, rfl, hz2, hb2⟩
        have L2 := Lib.hid (L1.out.below hb2); have Z2 := Lib.hid hz2; clear hb2 hz2
        go_wp2_with fail
        refine hK.out _ _ (L2.out.s) (fun hH2 => ?_)
        clear hK K hH1
        try simp only [Act.put, List.setIfInBounds_toArray, List.set_cons_zero, List.set_cons_succ]
        refine wpAnyH_ready (rs := [4]) (by kernel_rfl) (by simp) ?_
        refine AllReadyH.cons (o := ⟨some 43, _, _, _, _, _⟩) rfl (fun K hK => ?_) AllReadyH.nil
        go_simp
        refine (HSm.out _ _ _ _ _ _ _ L2.out.zg Z2.out).mono ?_
        rintro e w3 ⟨rfl, hb3⟩
        have L3 := Lib.hid (L2.out.below hb3); clear hb3
        go_wp2_with fail
        refine hK.out _ _ (L3.out.s) (fun hH3 => ?_)
        clear hK K hH2
        try simp only [Act.put, List.setIfInBounds_toArray, List.set_cons_zero, List.set_cons_succ]
        refine wpAnyH_take (i := 5) (oi := ⟨some 44, _, _, _, _, _⟩) (v := ?_) rfl (by kernel_rfl) (by kernel_rfl) (by kernel_rfl) (fun _ _ _ h => h) (Or.inl ⟨by rfl, ?_⟩) hH3 ?_
        rotate_left
        · intro w hSw
          try dsimp only at hSw
          go_simp
          try with_reducible rfl
        try simp only [Act.put, List.setIfInBounds_toArray, List.set_cons_zero, List.set_cons_succ]
        refine wpAnyH_take (i := 6) (oi := ⟨some 6, _, _, _, _, _⟩) (v := ?_) rfl (by kernel_rfl) (by kernel_rfl) (by kernel_rfl) (fun _ _ _ h => h) (Or.inl ⟨by rfl, ?_⟩) hH3 ?_
        rotate_left
        · intro w hSw
          try dsimp only at hSw
          go_simp
          try with_reducible rfl
        try simp only [Act.put, List.setIfInBounds_toArray, List.set_cons_zero, List.set_cons_succ]
        refine wpAnyH_done (by kernel_rfl) ?_ _
        go_wp2_with fail
        go_ret
        exact ⟨rfl, L3.out.low⟩
      · subst hm1 hm2
        have HRw : Hid (∀ W, WL w gx gy bg mx mx mx Rx Ry Rg AX AY Ag (rlen mx Rx) (rlen mx Ry) (rlen mx Rg) cx cy cg W → Calls Tryz.prog 13 #[zoneV ((mx : Int) - 1) AX (rlen mx Rx) cx, zoneV ((mx : Int) - 1) AY (rlen mx Ry) cy, .slice S n cs] W (fun e w' => ∃ A c base, e = .returned (zoneV ((mx : Int) - 1) A (rlen mx Rg) c) ∧ ZRes w' base mx Rg (zoneV ((mx : Int) - 1) A (rlen mx Rg) c) ∧ Below W.heap.size W w')) := Lib.hid fun W h => KR W _ _ _ _ _ _ h.low h.zx h.zy
        have HSm : Hid (∀ W ba bb A1 c1 A2 c2, ZRes W ba mx Rg (zoneV ((mx : Int) - 1) A1 (rlen mx Rg) c1) → ZRes W bb mx Rg (zoneV ((mx : Int) - 1) A2 (rlen mx Rg) c2) → Calls Tryz.prog 11 #[zoneV ((mx : Int) - 1) A1 (rlen mx Rg) c1, zoneV ((mx : Int) - 1) A2 (rlen mx Rg) c2] W (RetB W true)) := Lib.hid fun W ba bb A1 c1 A2 c2 z1 z2 => lsame_any H07.out.2 z1 z2
        have HLx : Hid (∀ W, WL w gx gy bg mx mx mx Rx Ry Rg AX AY Ag (rlen mx Rx) (rlen mx Ry) (rlen mx Rg) cx cy cg W → Calls Tryz.prog 14 #[zoneV ((mx : Int) - 1) AX (rlen mx Rx) cx, zoneV ((mx : Int) - 1) Ag (rlen mx Rg) cg] W (RetB W true)) := Lib.hid fun W h => by
          have q := leq_any (ma := mx) (mb := mx) (Ra := Rx) (Rb := Rg) H07.out.1 H07.out.2 (fun W1 hb => two_of (w := W1) (ma := mx) (mb := mx) (fun W2 hb2 => close_back H07.out.1 H07.out.2 ((h.zx.below hb).below hb2)) (fun W2 hb2 => close_back H07.out.1 H07.out.2 ((h.zg.below hb).below hb2)))
          rw [q1] at q
          exact q
        have HLy : Hid (∀ W, WL w gx gy bg mx mx mx Rx Ry Rg AX AY Ag (rlen mx Rx) (rlen mx Ry) (rlen mx Rg) cx cy cg W → Calls Tryz.prog 14 #[zoneV ((mx : Int) - 1) AY (rlen mx Ry) cy, zoneV ((mx : Int) - 1) Ag (rlen mx Rg) cg] W (RetB W true)) := Lib.hid fun W h => by
          have q := leq_any (ma := mx) (mb := mx) (Ra := Ry) (Rb := Rg) H07.out.1 H07.out.2 (fun W1 hb => two_of (w := W1) (ma := mx) (mb := mx) (fun W2 hb2 => close_back H07.out.1 H07.out.2 ((h.zy.below hb).below hb2)) (fun W2 hb2 => close_back H07.out.1 H07.out.2 ((h.zg.below hb).below hb2)))
          rw [q2] at q
          exact q
        clear q1 q2 KR HH
        go_wp2_with fail
        refine wp_region_held_drew (S := fun w' => (w'.cell? ⟨gx, 0, none⟩ = some (.int .i64 ((mx : Int) - 1)) ∧ w'.cell? ⟨gx, 1, none⟩ = some (.slice AX (rlen mx Rx) cx)) ∧ (w'.cell? ⟨gy, 0, none⟩ = some (.int .i64 ((mx : Int) - 1)) ∧ w'.cell? ⟨gy, 1, none⟩ = some (.slice AY (rlen mx Ry) cy)) ∧ w'.cell? ⟨bg, 0, none⟩ = some (.int .i64 ((mx : Int) - 1)) ∧ w'.cell? ⟨bg, 1, none⟩ = some (.slice Ag (rlen mx Rg) cg)) (by kernel_rfl) (L0.out.s) (fun hH0 => ?_)
        refine wpAnyH_ready (rs := [0]) (by kernel_rfl) (by simp) ?_
        refine AllReadyH.cons (o := ⟨some 45, _, _, _, _, _⟩) rfl (fun K hK => ?_) AllReadyH.nil
        go_simp
        refine (alive_any _).mono ?_
        rintro e w1 ⟨rfl, hb1⟩
        have L1 := Lib.hid (L0.out.below hb1); clear hb1
        go_wp2_with fail
        refine hK.out _ _ (L1.out.s) (fun hH1 => ?_)
        clear hK K hH0
        try simp only [Act.put, List.setIfInBounds_toArray, List.set_cons_zero, List.set_cons_succ]
        refine wpAnyH_take (i := 1) (oi := ⟨some 46, _, _, _, _, _⟩) (v := ?_) rfl (by kernel_rfl) (by kernel_rfl) (by kernel_rfl) (fun _ _ _ h => h) (Or.inl ⟨by rfl, ?_⟩) hH1 ?_
        rotate_left
        · intro w hSw
          try dsimp only at hSw
          go_simp
          try with_reducible rfl
        try simp only [Act.put, List.setIfInBounds_toArray, List.set_cons_zero, List.set_cons_succ]
        refine wpAnyH_take (i := 2) (oi := ⟨some 47, _, _, _, _, _⟩) (v := ?_) rfl (by kernel_rfl) (by kernel_rfl) (by kernel_rfl) (fun _ _ _ h => h) (Or.inl ⟨by rfl, ?_⟩) hH1 ?_
        rotate_left
        · intro w hSw
          try dsimp only at hSw
          go_simp
          try with_reducible rfl
        try simp only [Act.put, List.setIfInBounds_toArray, List.set_cons_zero, List.set_cons_succ]
        refine wpAnyH_take (i := 3) (oi := ⟨some 48, _, _, _, _, _⟩) (v := ?_) rfl (by kernel_rfl) (by kernel_rfl) (by kernel_rfl) (fun _ _ _ h => h) (Or.inl ⟨by rfl, ?_⟩) hH1 ?_
        rotate_left
        · intro w hSw
          try dsimp only at hSw
          go_simp
          try with_reducible rfl
        try simp only [Act.put, List.setIfInBounds_toArray, List.set_cons_zero, List.set_cons_succ]
        refine wpAnyH_take (i := 4) (oi := ⟨some 49, _, _, _, _, _⟩) (v := ?_) rfl (by kernel_rfl) (by kernel_rfl) (by kernel_rfl) (fun _ _ _ h => h) (Or.inl ⟨by rfl, ?_⟩) hH1 ?_
        rotate_left
        · intro w hSw
          try dsimp only at hSw
          go_simp
          try with_reducible rfl
        try simp only [Act.put, List.setIfInBounds_toArray, List.set_cons_zero, List.set_cons_succ]
        refine wpAnyH_take (i := 5) (oi := ⟨some 50, _, _, _, _, _⟩) (v := ?_) rfl (by kernel_rfl) (by kernel_rfl) (by kernel_rfl) (fun _ _ _ h => h) (Or.inl ⟨by rfl, ?_⟩) hH1 ?_
        rotate_left
        · intro w hSw
          try dsimp only at hSw
          go_simp
          try with_reducible rfl
        try simp only [Act.put, List.setIfInBounds_toArray, List.set_cons_zero, List.set_cons_succ]
        refine wpAnyH_ready (rs := [6]) (by kernel_rfl) (by simp) ?_
        refine AllReadyH.cons (o := ⟨some 51, _, _, _, _, _⟩) rfl (fun K hK => ?_) AllReadyH.nil
        go_simp
        refine (HRw.out _ L1.out).mono ?_
        rintro e w2 ⟨A2, c2, b2, rfl, hz2, hb2⟩
        have L2 := Lib.hid (L1.out.below hb2); have Z2 := Lib.hid hz2; clear hb2 hz2
        go_wp2_with fail
        refine hK.out _ _ (L2.out.s) (fun hH2 => ?_)
        clear hK K hH1
        try simp only [Act.put, List.setIfInBounds_toArray, List.set_cons_zero, List.set_cons_succ]
        refine wpAnyH_ready (rs := [7]) (by kernel_rfl) (by simp) ?_
        refine AllReadyH.cons (o := ⟨some 52, _, _, _, _, _⟩) rfl (fun K hK => ?_) AllReadyH.nil
        go_simp
        refine (HSm.out _ _ _ _ _ _ _ L2.out.zg Z2.out).mono ?_
        rintro e w3 ⟨rfl, hb3⟩
        have L3 := Lib.hid (L2.out.below hb3); clear hb3
        go_wp2_with fail
        refine hK.out _ _ (L3.out.s) (fun hH3 => ?_)
        clear hK K hH2
        try simp only [Act.put, List.setIfInBounds_toArray, List.set_cons_zero, List.set_cons_succ]
        refine wpAnyH_take (i := 8) (oi := ⟨some 53, _, _, _, _, _⟩) (v := ?_) rfl (by kernel_rfl) (by kernel_rfl) (by kernel_rfl) (fun _ _ _ h => h) (Or.inl ⟨by rfl, ?_⟩) hH3 ?_
        rotate_left
        · intro w hSw
          try dsimp only at hSw
          go_simp
          try with_reducible rfl
        try simp only [Act.put, List.setIfInBounds_toArray, List.set_cons_zero, List.set_cons_succ]
        refine wpAnyH_take (i := 9) (oi := ⟨some 54, _, _, _, _, _⟩) (v := ?_) rfl (by kernel_rfl) (by kernel_rfl) (by kernel_rfl) (fun _ _ _ h => h) (Or.inl ⟨by rfl, ?_⟩) hH3 ?_
        rotate_left
        · intro w hSw
          try dsimp only at hSw
          go_simp
          try with_reducible rfl
        try simp only [Act.put, List.setIfInBounds_toArray, List.set_cons_zero, List.set_cons_succ]
        refine wpAnyH_take (i := 10) (oi := ⟨some 55, _, _, _, _, _⟩) (v := ?_) rfl (by kernel_rfl) (by kernel_rfl) (by kernel_rfl) (fun _ _ _ h => h) (Or.inl ⟨by rfl, ?_⟩) hH3 ?_
        rotate_left
        · intro w hSw
          try dsimp only at hSw
          go_simp
          try with_reducible rfl
        try simp only [Act.put, List.setIfInBounds_toArray, List.set_cons_zero, List.set_cons_succ]
        refine wpAnyH_take (i := 12) (oi := ⟨some 57, _, _, _, _, _⟩) (v := ?_) rfl (by kernel_rfl) (by kernel_rfl) (by kernel_rfl) (fun _ _ _ h => h) (Or.inl ⟨by rfl, ?_⟩) hH3 ?_
        rotate_left
        · intro w hSw
          try dsimp only at hSw
          go_simp
          try with_reducible rfl
        try simp only [Act.put, List.setIfInBounds_toArray, List.set_cons_zero, List.set_cons_succ]
        refine wpAnyH_ready (rs := [11]) (by kernel_rfl) (by simp) ?_
        refine AllReadyH.cons (o := ⟨some 56, _, _, _, _, _⟩) rfl (fun K hK => ?_) AllReadyH.nil
        go_simp
        refine (of_zone _ ((mx : Int) - 1) AX (rlen mx Rx) cx).mono ?_
        rintro e w4 ⟨rfl, hb4⟩
        have L4 := Lib.hid (L3.out.below hb4); clear hb4
        go_wp2_with fail
        refine hK.out _ _ (L4.out.s) (fun hH4 => ?_)
        clear hK K hH3
        try simp only [Act.put, List.setIfInBounds_toArray, List.set_cons_zero, List.set_cons_succ]
        refine wpAnyH_ready (rs := [13]) (by kernel_rfl) (by simp) ?_
        refine AllReadyH.cons (o := ⟨some 58, _, _, _, _, _⟩) rfl (fun K hK => ?_) AllReadyH.nil
        go_simp
        refine (HLx.out _ L4.out).mono ?_
        rintro e w5 ⟨rfl, hb5⟩
        have L5 := Lib.hid (L4.out.below hb5); clear hb5
        go_wp2_with fail
        refine hK.out _ _ (L5.out.s) (fun hH5 => ?_)
        clear hK K hH4
        try simp only [Act.put, List.setIfInBounds_toArray, List.set_cons_zero, List.set_cons_succ]
        refine wpAnyH_take (i := 14) (oi := ⟨some 59, _, _, _, _, _⟩) (v := ?_) rfl (by kernel_rfl) (by kernel_rfl) (by kernel_rfl) (fun _ _ _ h => h) (Or.inl ⟨by rfl, ?_⟩) hH5 ?_
        rotate_left
        · intro w hSw
          try dsimp only at hSw
          go_simp
          try with_reducible rfl
        try simp only [Act.put, List.setIfInBounds_toArray, List.set_cons_zero, List.set_cons_succ]
        refine wpAnyH_take (i := 15) (oi := ⟨some 60, _, _, _, _, _⟩) (v := ?_) rfl (by kernel_rfl) (by kernel_rfl) (by kernel_rfl) (fun _ _ _ h => h) (Or.inl ⟨by rfl, ?_⟩) hH5 ?_
        rotate_left
        · intro w hSw
          try dsimp only at hSw
          go_simp
          try with_reducible rfl
        try simp only [Act.put, List.setIfInBounds_toArray, List.set_cons_zero, List.set_cons_succ]
        refine wpAnyH_take (i := 16) (oi := ⟨some 61, _, _, _, _, _⟩) (v := ?_) rfl (by kernel_rfl) (by kernel_rfl) (by kernel_rfl) (fun _ _ _ h => h) (Or.inl ⟨by rfl, ?_⟩) hH5 ?_
        rotate_left
        · intro w hSw
          try dsimp only at hSw
          go_simp
          try with_reducible rfl
        try simp only [Act.put, List.setIfInBounds_toArray, List.set_cons_zero, List.set_cons_succ]
        refine wpAnyH_take (i := 18) (oi := ⟨some 63, _, _, _, _, _⟩) (v := ?_) rfl (by kernel_rfl) (by kernel_rfl) (by kernel_rfl) (fun _ _ _ h => h) (Or.inl ⟨by rfl, ?_⟩) hH5 ?_
        rotate_left
        · intro w hSw
          try dsimp only at hSw
          go_simp
          try with_reducible rfl
        try simp only [Act.put, List.setIfInBounds_toArray, List.set_cons_zero, List.set_cons_succ]
        refine wpAnyH_ready (rs := [17]) (by kernel_rfl) (by simp) ?_
        refine AllReadyH.cons (o := ⟨some 62, _, _, _, _, _⟩) rfl (fun K hK => ?_) AllReadyH.nil
        go_simp
        refine (of_zone _ ((mx : Int) - 1) AY (rlen mx Ry) cy).mono ?_
        rintro e w6 ⟨rfl, hb6⟩
        have L6 := Lib.hid (L5.out.below hb6); clear hb6
        go_wp2_with fail
        refine hK.out _ _ (L6.out.s) (fun hH6 => ?_)
        clear hK K hH5
        try simp only [Act.put, List.setIfInBounds_toArray, List.set_cons_zero, List.set_cons_succ]
        refine wpAnyH_ready (rs := [19]) (by kernel_rfl) (by simp) ?_
        refine AllReadyH.cons (o := ⟨some 64, _, _, _, _, _⟩) rfl (fun K hK => ?_) AllReadyH.nil
        go_simp
        refine (HLy.out _ L6.out).mono ?_
        rintro e w7 ⟨rfl, hb7⟩
        have L7 := Lib.hid (L6.out.below hb7); clear hb7
        go_wp2_with fail
        refine hK.out _ _ (L7.out.s) (fun hH7 => ?_)
        clear hK K hH6
        try simp only [Act.put, List.setIfInBounds_toArray, List.set_cons_zero, List.set_cons_succ]
        refine wpAnyH_take (i := 20) (oi := ⟨some 65, _, _, _, _, _⟩) (v := ?_) rfl (by kernel_rfl) (by kernel_rfl) (by kernel_rfl) (fun _ _ _ h => h) (Or.inl ⟨by rfl, ?_⟩) hH7 ?_
        rotate_left
        · intro w hSw
          try dsimp only at hSw
          go_simp
          try with_reducible rfl
        try simp only [Act.put, List.setIfInBounds_toArray, List.set_cons_zero, List.set_cons_succ]
        refine wpAnyH_take (i := 21) (oi := ⟨some 6, _, _, _, _, _⟩) (v := ?_) rfl (by kernel_rfl) (by kernel_rfl) (by kernel_rfl) (fun _ _ _ h => h) (Or.inl ⟨by rfl, ?_⟩) hH7 ?_
        rotate_left
        · intro w hSw
          try dsimp only at hSw
          go_simp
          try with_reducible rfl
        try simp only [Act.put, List.setIfInBounds_toArray, List.set_cons_zero, List.set_cons_succ]
        refine wpAnyH_done (by kernel_rfl) ?_ _
        go_wp2_with fail
        go_ret
        exact ⟨rfl, L7.out.low⟩
set_option maxRecDepth 100000 in
set_option maxHeartbeats 1600000 in
theorem widens_far {w : World} {Na Nb : Int} {Aa Ab S : Option Addr} {la ca lb cb n cs : Nat} (hn : n ≤ 9223372036854775807) (hf : ¬ la ≤ 100 ∨ (la ≤ 100 ∧ ¬ lb ≤ 100) ∨ (la ≤ 100 ∧ lb ≤ 100 ∧ 30 < n)) :
    Calls Tryz.prog 3 #[zoneV Na Aa la ca, zoneV Nb Ab lb cb, .slice S n cs] w (RetB w true) := by
  have M := Lib.hid (wb_new w Na Nb Aa Ab la lb ca cb)
  obtain ⟨⟨a0, a1⟩, a2, a3⟩ := M.out.s
  rcases hf with g | ⟨g, h⟩ | ⟨g, h, k⟩
  · have HFa : Hid (∀ W, Calls Tryz.prog 6 #[zoneV Na Aa la ca] W (RetB W false)) := Lib.hid fun W => by
      have := few_any W Na Aa la ca
      rw [decide_eq_false g] at this
      exact this
    clear g hn
    go_enter Tryz.func3, Tryz.ntmps3
    go_wp2_with (first
      | (go_at_call 6; ((with_reducible refine (HFa.out _).mono ?_); rintro e w1 ⟨rfl, hb1⟩); have M1 := Lib.hid (M.out.below hb1); clear hb1)
      | (go_at_call 7; ((with_reducible refine (alive_any _).mono ?_); rintro e w2 ⟨rfl, hb2⟩); have M2 := Lib.hid (M1.out.below hb2); clear hb2))
    go_ret
    exact ⟨rfl, M2.out.low⟩
  all_goals
    have HFa : Hid (∀ W, Calls Tryz.prog 6 #[zoneV Na Aa la ca] W (RetB W true)) := Lib.hid fun W => by
      have := few_any W Na Aa la ca
      rw [decide_eq_true g] at this
      exact this
  · have HFb : Hid (∀ W, Calls Tryz.prog 6 #[zoneV Nb Ab lb cb] W (RetB W false)) := Lib.hid fun W => by
      have := few_any W Nb Ab lb cb
      rw [decide_eq_false h] at this
      exact this
    clear g h hn
    go_enter Tryz.func3, Tryz.ntmps3
    go_wp2_with (first
      | (go_at_call 6; ((with_reducible refine (HFa.out _).mono ?_); rintro e w1 ⟨rfl, hb1⟩); have M1 := Lib.hid (M.out.below hb1); obtain ⟨⟨a0, a1⟩, a2, a3⟩ := M1.out.s; clear hb1)
      | (go_at_call 6; ((with_reducible refine (HFb.out _).mono ?_); rintro e w2 ⟨rfl, hb2⟩); have M2 := Lib.hid (M1.out.below hb2); clear hb2)
      | (go_at_call 7; ((with_reducible refine (alive_any _).mono ?_); rintro e w3 ⟨rfl, hb3⟩); have M3 := Lib.hid (M2.out.below hb3); clear hb3))
    go_ret
    exact ⟨rfl, M3.out.low⟩
  · have HFb : Hid (∀ W, Calls Tryz.prog 6 #[zoneV Nb Ab lb cb] W (RetB W true)) := Lib.hid fun W => by
      have := few_any W Nb Ab lb cb
      rw [decide_eq_true h] at this
      exact this
    have d1 : decide (30 < (n : Int)) = true := decide_eq_true (by omega)
    clear g h hn k
    go_enter Tryz.func3, Tryz.ntmps3
    go_wp2_with (first
      | (go_at_call 6; ((with_reducible refine (HFa.out _).mono ?_); rintro e w1 ⟨rfl, hb1⟩); have M1 := Lib.hid (M.out.below hb1); obtain ⟨⟨a0, a1⟩, a2, a3⟩ := M1.out.s; clear hb1)
      | (go_at_call 6; ((with_reducible refine (HFb.out _).mono ?_); rintro e w2 ⟨rfl, hb2⟩); have M2 := Lib.hid (M1.out.below hb2); clear hb2)
      | (go_at_call 7; ((with_reducible refine (alive_any _).mono ?_); rintro e w3 ⟨rfl, hb3⟩); have M3 := Lib.hid (M2.out.below hb3); clear hb3))
    go_ret
    exact ⟨rfl, M3.out.low⟩
theorem zone_widens_walk (x0 : Int) (A0 : Option Addr) (m0 c0 : Nat) (f0 : Nat → Int) (x1 : Int) (A1 : Option Addr) (m1 c1 : Nat) (f1 : Nat → Int) (f2 : Nat → Int) (A2 : Option Addr) (m2 c2 : Nat) (W : World)
    (_ : m0 ≤ 9223372036854775807) (mc0 : m0 ≤ c0) (hI0 : ZInts W A0 m0 f0) (_ : m1 ≤ 9223372036854775807) (mc1 : m1 ≤ c1) (hI1 : ZInts W A1 m1 f1) (mm2 : m2 ≤ 9223372036854775807) (_ : m2 ≤ c2) (hI2 : ZInts W A2 m2 f2) :
    Calls Tryz.prog 3 #[zoneV x0 A0 m0 c0, zoneV x1 A1 m1 c1, .slice A2 m2 c2] W (RetB W true) := by
  by_cases g : m0 ≤ 100
  · by_cases h : m1 ≤ 100
    · by_cases k : m2 ≤ 30
      · have hS : Sp.Ints W A2 m2 f2 := hI2
        have z0 : ZArg W (zoneV x0 A0 m0 c0) x0 m0 f0 := ⟨A0, c0, rfl, mc0, g, hI0⟩
        have z1 : ZArg W (zoneV x1 A1 m1 c1) x1 m1 f1 := ⟨A1, c1, rfl, mc1, h, hI1⟩
        have HTw : ∀ W1, Below W.heap.size W W1 → Calls Tryz.prog 36 #[zoneV x0 A0 m0 c0, zoneV x1 A1 m1 c1] W1 (RetTwo W1 (zm x0) (zm x1) (zr x0 m0 f0) (zr x1 m1 f1)) := fun W1 hb => two_of (fun W2 h2 => close_z ((z0.below hb).below h2)) (fun W2 h2 => close_z ((z1.below hb).below h2))
        have KCa : ∀ W1, Below W.heap.size W W1 → Calls Tryz.prog 8 #[zoneV x0 A0 m0 c0] W1 (RetC W1 (zm x0) (zr x0 m0 f0)) := fun W1 hb => rclean_z (z0.below hb)
        have KCb : ∀ W1, Below W.heap.size W W1 → Calls Tryz.prog 8 #[zoneV x1 A1 m1 c1] W1 (RetC W1 (zm x1) (zr x1 m1 f1)) := fun W1 hb => rclean_z (z1.below hb)
        obtain ⟨h0, h7⟩ := zm_bd x0
        have hA : ∀ C, zr x0 m0 f0 = some C → Closed (zm x0) C := fun C e => zr_closed e
        have hB : ∀ C, zr x1 m1 f1 = some C → Closed (zm x1) C := fun C e => zr_closed e
        generalize zr x0 m0 f0 = Rx at *
        generalize zr x1 m1 f1 = Ry at *
        generalize zm x0 = mx at *
        generalize zm x1 = my at *
        by_cases hm : mx = my
        · subst hm
          refine widens_in (mg := mx) (Rg := wdO mx f2 m2 Rx Ry) g h k KCa KCb (fun W1 hb => widen_any h0 h7 (by omega) (hS.below hb) hA hB (fun W2 h2 => HTw W2 (hb.trans (h2.mono hb.size)))) h0 h7 (.inr ⟨rfl, rfl, leqO_left h0 hA hB, leqO_right h0 hA hB, fun W1 ba bb AX AY cx cy hb zx zy => ?_⟩)
          refine (rwiden_any h0 h7 (by omega) (hS.below hb) zx zy).mono fun e w' ⟨A, c, base, he, hz, hb'⟩ => ?_
          have hsm := rw_wd (f := f2) (n := m2) h0 hA hB
          rw [rlen_same hsm] at he hz
          exact ⟨A, c, base, he, zres_congr hz hsm, hb'⟩
        · exact widens_in (mg := 1) (Rg := none) g h k KCa KCb (fun W1 hb => widen_off hm (fun W2 h2 => HTw W2 (hb.trans (h2.mono hb.size)))) h0 h7 (.inl ⟨hm, rfl, rfl⟩)
      · exact widens_far mm2 (.inr (.inr ⟨g, h, by omega⟩))
    · exact widens_far mm2 (.inr (.inl ⟨g, h⟩))
  · exact widens_far mm2 (.inl g)
end Go.Proofs.YtimckaphmfidhaaGreatDoor
