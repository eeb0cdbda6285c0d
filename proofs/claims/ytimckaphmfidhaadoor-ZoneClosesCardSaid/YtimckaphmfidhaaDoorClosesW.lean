/- ZoneCloses: the walk. -/
import Derived.Test.YtimckaphmfidhaaDoorRightAny
import Derived.BigRegion
import Derived.Deep.RegionHeld
namespace Go.Proofs.YtimckaphmfidhaaDoor
open Go.RowKit
attribute [local go_sem ↓] Go.wp_at_zero Go.wp_at_succ

/-- The boxes of the zone and of its Close. -/
structure CL (w : World) (N : Int) (A : Option Addr) (len cap bc m : Nat) (R : Option Mat) (L : Nat) (B : Option Addr) (cc : Nat) (W : World) : Prop where
  low : Below w.heap.size w W
  zb : Duo W w.heap.size 24 (.int .i64 N) (.slice A len cap)
  cb : Duo W bc 27 (.int .i64 ((m : Int) - 1)) (.slice B L cc)
  cz : ZRes W 0 m R (zoneV ((m : Int) - 1) B L cc)
section
variable {w W W1 : World} {N : Int} {A B : Option Addr} {len cap bc m cc L : Nat} {R : Option Mat}
theorem CL.below (h : CL w N A len cap bc m R L B cc W) (hb : Below W.heap.size W W1) : CL w N A len cap bc m R L B cc W1 := ⟨h.low.trans (hb.mono h.low.size), h.zb.below hb, h.cb.below hb, h.cz.below hb⟩
theorem CL.s (h : CL w N A len cap bc m R L B cc W) : (W.cell? ⟨w.heap.size, 0, none⟩ = some (.int .i64 N) ∧ W.cell? ⟨w.heap.size, 1, none⟩ = some (.slice A len cap)) ∧ W.cell? ⟨bc, 0, none⟩ = some (.int .i64 ((m : Int) - 1)) ∧ W.cell? ⟨bc, 1, none⟩ = some (.slice B L cc) := ⟨⟨h.zb.cell0, h.zb.cell1⟩, h.cb.cell0, h.cb.cell1⟩
end
/-- A zone told, its slice's length named. -/
def RetL (w : World) (m : Nat) (R : Option Mat) (L : Nat) (e : Ending) (w' : World) : Prop := ∃ A cap, e = .returned (zoneV ((m : Int) - 1) A L cap) ∧ ZRes w' w.heap.size m R (zoneV ((m : Int) - 1) A L cap) ∧ Below w.heap.size w w'
theorem RetC.len {w : World} {m : Nat} {R : Option Mat} {L : Nat} {e : Ending} {w' : World} (hL : rlen m R = L) (h : RetC w m R e w') : RetL w m R L e w' := by subst hL; exact h
theorem same_me (m : Nat) (R : Option Mat) : sameO m m R R = true := by
  cases R with
  | none => exact decide_eq_true rfl
  | some C => show (decide (m = m) && (flatL m C == flatL m C)) = true; simp
/-- The zone of all points, of any N. -/
def topO (N : Int) : Option Mat := if mayB N = true then some far else none
set_option maxRecDepth 100000 in
set_option maxHeartbeats 800000 in
theorem zone_bot (N : Int) (W : World) : Calls Tryd.prog 23 #[.int .i64 N] W (RetC W (zm N) none) := (bottom_any N W).mono fun e w' ⟨h1, h2⟩ => by
  refine ⟨none, 0, ?_, rfl, h2⟩
  rw [h1]
  have : botN N = ((zm N : Nat) : Int) - 1 := by
    unfold botN
    cases h : mayB N
    · have : zm N = 1 := by unfold zm; rw [h]; rfl
      rw [this]; rfl
    · exact (zm_may h).symm
  rw [this]; rfl
theorem rzone_bot (N : Int) (W : World) : Calls Tryd.prog 24 #[.int .i64 N] W (RetC W (zm N) none) := (rbottom_any N W).mono fun e w' ⟨h1, h2⟩ => by
  refine ⟨none, 0, ?_, rfl, h2⟩
  rw [h1]
  have : botN N = ((zm N : Nat) : Int) - 1 := by
    unfold botN
    cases h : mayB N
    · have : zm N = 1 := by unfold zm; rw [h]; rfl
      rw [this]; rfl
    · exact (zm_may h).symm
  rw [this]; rfl
theorem zm_out {N : Int} (h : mayB N = false) : zm N = 1 := by unfold zm; rw [h]; rfl
theorem may_out {N : Int} (h : mayB N = false) : N < 0 ∨ (¬ N < 0 ∧ 6 < N) := by
  by_cases q : N < 0
  · exact .inl q
  · right
    refine ⟨q, ?_⟩
    by_cases r : N ≤ 6
    · rw [(mayB_iff N).2 (by omega)] at h; cases h
    · omega
set_option maxRecDepth 100000 in
set_option maxHeartbeats 1600000 in
theorem ztop_gen (N : Int) (W : World) : Calls Tryd.prog 21 #[.int .i64 N] W (RetC W (zm N) (topO N)) := by
  unfold topO
  cases hm : mayB N
  · rw [zm_out hm, if_neg (by decide)]
    have HB := Lib.hid (zone_bot 0)
    have e0 : zm 0 = 1 := by decide
    rw [e0] at HB
    have HD := Lib.hid (Duo.new W 27 (.int .i64 0) (.slice none 0 0))
    have HBx := Lib.hid (zboxed W (.cells #[.int .i64 0, .slice none 0 0] 27))
    have HMay : Hid (∀ W, Calls Tryd.prog 42 #[.int .i64 N] W fun e w' => e = .returned (.bool false) ∧ W = w') := Lib.hid fun W => by
      have q := may_any N W
      rw [hm] at q
      exact q
    clear hm
    go_enter Tryd.func21, Tryd.ntmps21
    go_wp2_with (first
      | (go_at_call 42; ((with_reducible refine (HMay.out _).mono ?_); rintro e w' ⟨rfl, rfl⟩))
      | (go_at_call 23; ((with_reducible refine (HB.out _).mono ?_); rintro e w2 ⟨A2, c2, rfl, hz2, hb2⟩); obtain ⟨rfl, rfl⟩ := rn_of hz2; have x := HD.out.below hb2; have x0 := x.cell0; have x1 := x.cell1; have x2 := x.frozen0; have x3 := x.frozen1; have x4 := x.lt; have HE := Lib.hid (HBx.out.trans (hb2.mono HBx.out.size)); have HX := Lib.hid x; clear x hb2))
    refine post_cell (rb := W.heap.size) Tryd.results21 rfl rfl ((HX.out.set0 _).set1 _) ⟨none, 0, rfl, rfl, (HE.out.setCell (p := ⟨W.heap.size, 0, none⟩) (Nat.le_refl _) _).setCell (p := ⟨W.heap.size, 1, none⟩) (Nat.le_refl _) _⟩
  · rw [if_pos rfl]
    obtain ⟨h0, h7⟩ := zm_bd N
    have q := top_any (zm N) h7 h0 W
    rw [zm_may hm] at q
    exact q
set_option maxRecDepth 100000 in
set_option maxHeartbeats 1600000 in
theorem rztop_gen (N : Int) (W : World) : Calls Tryd.prog 22 #[.int .i64 N] W (RetC W (zm N) (topO N)) := by
  unfold topO
  cases hm : mayB N
  · rw [zm_out hm, if_neg (by decide)]
    have HB := Lib.hid (rzone_bot 0)
    have e0 : zm 0 = 1 := by decide
    rw [e0] at HB
    have HD := Lib.hid (Duo.new W 24 (.int .i64 0) (.slice none 0 0))
    have HBx := Lib.hid (zboxed W (.cells #[.int .i64 0, .slice none 0 0] 24))
    rcases may_out hm with h | ⟨h1, h2⟩
    · have d1 : decide (N < 0) = true := decide_eq_true h
      clear hm
      have e9 : rlen 1 (none : Option Mat) = 0 := rfl
      go_enter Tryd.func22, Tryd.ntmps22
      go_wp2_with (go_at_call 24; ((with_reducible refine (HB.out _).mono ?_); rintro e w2 ⟨A2, c2, rfl, hz2, hb2⟩); obtain ⟨rfl, rfl⟩ := rn_of hz2; have x := HD.out.below hb2; have x0 := x.cell0; have x1 := x.cell1; have x2 := x.frozen0; have x3 := x.frozen1; have x4 := x.lt; have HE := Lib.hid (HBx.out.trans (hb2.mono HBx.out.size)); have HX := Lib.hid x; clear x hb2)
      have hp := res_put HX.out HE.out (Nat.le_refl _) (.int .i64 0) (.slice none 0 0)
      have q0 := hp.1.cell0
      have q1 := hp.1.cell1
      have r0 := (HX.out.set0 (.int .i64 0)).cell0
      exact bodyPost_ret (v := .agg #[.int .i64 0, .slice none 0 0]) (by simp [results, Tryd.results22, go_sem, q0, q1]) rfl ⟨none, 0, rfl, rfl, hp.2⟩
    · have d1 : decide (N < 0) = false := decide_eq_false h1
      have d2 : decide (6 < N) = true := decide_eq_true h2
      clear hm
      have e9 : rlen 1 (none : Option Mat) = 0 := rfl
      go_enter Tryd.func22, Tryd.ntmps22
      go_wp2_with (go_at_call 24; ((with_reducible refine (HB.out _).mono ?_); rintro e w2 ⟨A2, c2, rfl, hz2, hb2⟩); obtain ⟨rfl, rfl⟩ := rn_of hz2; have x := HD.out.below hb2; have x0 := x.cell0; have x1 := x.cell1; have x2 := x.frozen0; have x3 := x.frozen1; have x4 := x.lt; have HE := Lib.hid (HBx.out.trans (hb2.mono HBx.out.size)); have HX := Lib.hid x; clear x hb2)
      have hp := res_put HX.out HE.out (Nat.le_refl _) (.int .i64 0) (.slice none 0 0)
      have q0 := hp.1.cell0
      have q1 := hp.1.cell1
      have r0 := (HX.out.set0 (.int .i64 0)).cell0
      exact bodyPost_ret (v := .agg #[.int .i64 0, .slice none 0 0]) (by simp [results, Tryd.results22, go_sem, q0, q1]) rfl ⟨none, 0, rfl, rfl, hp.2⟩
  · rw [if_pos rfl]
    obtain ⟨h0, h7⟩ := zm_bd N
    have q := rztop_in (W := W) h0 h7
    rw [zm_may hm] at q
    exact q
set_option maxRecDepth 100000 in
set_option maxHeartbeats 800000 in
theorem rzright_any {w : World} {N : Int} {A : Option Addr} {len cap : Nat} {f : Nat → Int} (hl : len ≤ 100) (ha : ZArg w (zoneV N A len cap) N len f) :
    Calls Tryd.prog 16 #[zoneV N A len cap] w (RetB w (rightO N len f)) := by
  cases hm : mayB N
  · have hq : rightO N len f = false := by
      unfold rightO
      rw [zm_out hm, decide_eq_false (by rcases may_out hm with h | h <;> omega), Bool.false_and]
    rw [hq]
    have HB := Lib.hid (zboxed w (.cells #[.int .i64 N, .slice A len cap] 24))
    have K := Duo.new w 24 (.int .i64 N) (.slice A len cap)
    have k0 := K.cell0
    have k1 := K.cell1
    have HB2 := Lib.hid HB.out.drew
    have HKd : Hid ((w.alloc (.cells #[.int .i64 N, .slice A len cap] 24)).drew.cell? ⟨w.heap.size, 0, none⟩ = some (.int .i64 N)) := Lib.hid K.cell0
    rcases may_out hm with h | ⟨h1, h2⟩
    · have d1 : decide (0 ≤ N) = false := decide_eq_false (by omega)
      clear ha hm hq K h
      go_enter Tryd.func16, Tryd.ntmps16
      go_wp2_with fail
      go_quiet (fail)
      go_wp2_with fail
      go_ret
      exact ⟨rfl, HB.out.trans ((rdrewN_below _ _).mono HB.out.size)⟩
    · have d1 : decide (0 ≤ N) = true := decide_eq_true (by omega)
      have d2 : decide (N ≤ 6) = false := decide_eq_false (by omega)
      clear ha hm hq K h1 h2
      go_enter Tryd.func16, Tryd.ntmps16
      go_wp2_with fail
      go_quiet (fail)
      go_wp2_with fail
      go_ret
      exact ⟨rfl, HB.out.trans ((rdrewN_below _ _).mono HB.out.size)⟩
  · exact rright_in hm hl ha
set_option maxRecDepth 100000 in
set_option maxHeartbeats 64000000 in
theorem closes_in {w : World} {N : Int} {A : Option Addr} {len cap : Nat} {f : Nat → Int} (hl : len ≤ 100) (ht : Tabs w) (ha : ZArg w (zoneV N A len cap) N len f) :
    Calls Tryd.prog 3 #[zoneV N A len cap] w (RetB w true) := by
  obtain ⟨h0, h7⟩ := zm_bd N
  have HA := Lib.hid ha
  have HT := Lib.hid ht
  have HR : Hid (∀ C, zr N len f = some C → Closed (zm N) C) := Lib.hid fun C hC => zr_closed hC
  have HFew : Hid (∀ W, Calls Tryd.prog 9 #[zoneV N A len cap] W (RetB W true)) := Lib.hid fun W => by
    have q := few_any W N A len cap
    rw [decide_eq_true hl] at q
    exact q
  have HCl : Hid (∀ W, Below w.heap.size w W → Calls Tryd.prog 11 #[zoneV N A len cap] W (RetC W (zm N) (zr N len f))) := Lib.hid fun W hb => close_z (HA.out.below hb)
  have HRCl : Hid (∀ W, Below w.heap.size w W → Calls Tryd.prog 14 #[zoneV N A len cap] W (RetC W (zm N) (zr N len f))) := Lib.hid fun W hb => rclose_z (HA.out.below hb)
  have HCn : Hid (∀ W, Below w.heap.size w W → Calls Tryd.prog 19 #[zoneV N A len cap] W (RetC W (zm N) (zr N len f))) := Lib.hid fun W hb => rclean_z (HA.out.below hb)
  have HRi : Hid (∀ W, Below w.heap.size w W → Calls Tryd.prog 15 #[zoneV N A len cap] W (RetB W (rightO N len f))) := Lib.hid fun W hb => right_any (HA.out.below hb)
  have HRr : Hid (∀ W, Below w.heap.size w W → Calls Tryd.prog 16 #[zoneV N A len cap] W (RetB W (rightO N len f))) := Lib.hid fun W hb => rzright_any hl (HA.out.below hb)
  have HTx : Hid (∀ W, Below w.heap.size w W → Calls Tryd.prog 17 #[zoneV N A len cap] W (RetTx (textZ (zm N) (zr N len f)) W)) := Lib.hid fun W hb => text_any h0 h7 HR.out (HT.out.stays hb) (fun W1 hb1 => close_z ((HA.out.below hb).below hb1))
  have HTop : Hid (∀ W, Calls Tryd.prog 21 #[.int .i64 N] W (RetC W (zm N) (topO N))) := Lib.hid fun W => ztop_gen N W
  have HRTop : Hid (∀ W, Calls Tryd.prog 22 #[.int .i64 N] W (RetC W (zm N) (topO N))) := Lib.hid fun W => rztop_gen N W
  have HBot : Hid (∀ W, Calls Tryd.prog 23 #[.int .i64 N] W (RetC W (zm N) none)) := Lib.hid fun W => zone_bot N W
  have HRBot : Hid (∀ W, Calls Tryd.prog 24 #[.int .i64 N] W (RetC W (zm N) none)) := Lib.hid fun W => rzone_bot N W
  generalize topO N = T at *
  generalize rightO N len f = b at *
  generalize zr N len f = R at *
  generalize zm N = m at *
  obtain ⟨L, hL⟩ : ∃ L, rlen m R = L := ⟨_, rfl⟩
  have HCl := Lib.hid fun W hb => (HCl.out W hb).mono fun _ _ h => RetC.len hL h
  have HRCl := Lib.hid fun W hb => (HRCl.out W hb).mono fun _ _ h => RetC.len hL h
  have HCn := Lib.hid fun W hb => (HCn.out W hb).mono fun _ _ h => RetC.len hL h
  have HBot : Hid (∀ W, Calls Tryd.prog 23 #[.int .i64 N] W (RetL W m none 0)) := HBot
  have HRBot : Hid (∀ W, Calls Tryd.prog 24 #[.int .i64 N] W (RetL W m none 0)) := HRBot
  have HSm : Hid (∀ W ba bb A1 c1 A2 c2, ZRes W ba m R (zoneV ((m : Int) - 1) A1 (L) c1) → ZRes W bb m R (zoneV ((m : Int) - 1) A2 (L) c2) → Calls Tryd.prog 13 #[zoneV ((m : Int) - 1) A1 (L) c1, zoneV ((m : Int) - 1) A2 (L) c2] W (RetB W true)) := Lib.hid fun W ba bb A1 c1 A2 c2 z1 z2 => by subst hL; exact lsame_any h7 z1 z2
  have HSmT : Hid (∀ W ba bb A1 c1 A2 c2, ZRes W ba m T (zoneV ((m : Int) - 1) A1 (rlen m T) c1) → ZRes W bb m T (zoneV ((m : Int) - 1) A2 (rlen m T) c2) → Calls Tryd.prog 13 #[zoneV ((m : Int) - 1) A1 (rlen m T) c1, zoneV ((m : Int) - 1) A2 (rlen m T) c2] W (RetB W true)) := Lib.hid fun W ba bb A1 c1 A2 c2 z1 z2 => lsame_any h7 z1 z2
  have HSmB : Hid (∀ W ba bb A1 c1 A2 c2, ZRes W ba m none (zoneV ((m : Int) - 1) A1 (0) c1) → ZRes W bb m none (zoneV ((m : Int) - 1) A2 (0) c2) → Calls Tryd.prog 13 #[zoneV ((m : Int) - 1) A1 (0) c1, zoneV ((m : Int) - 1) A2 (0) c2] W (RetB W true)) := Lib.hid fun W ba bb A1 c1 A2 c2 z1 z2 => by
    have q := lsame_any (R := none) (w := W) (A := A1) (B := A2) (ca := c1) (cb := c2) (ba := ba) (bb := bb) h7 z1 z2
    exact q
  have HRc : Hid (∀ W ba A1 c1, ZRes W ba m R (zoneV ((m : Int) - 1) A1 (L) c1) → ba ≤ W.heap.size → Calls Tryd.prog 15 #[zoneV ((m : Int) - 1) A1 (L) c1] W (RetB W true)) := Lib.hid fun W ba A1 c1 z hb => by
    subst hL
    have q := right_right h0 h7 z hb (fun W1 hb1 => close_back h0 h7 (z.below hb1))
    rw [same_me] at q
    exact q
  have HRt : Hid (∀ W ba A1 c1, ZRes W ba m R (zoneV ((m : Int) - 1) A1 (L) c1) → Calls Tryd.prog 18 #[zoneV ((m : Int) - 1) A1 (L) c1] W (RetTx (textZ m R) W)) := Lib.hid fun W ba A1 c1 z => by subst hL; exact rztext_any h0 h7 z
  have HCc : Hid (∀ W ba A1 c1, ZRes W ba m R (zoneV ((m : Int) - 1) A1 (L) c1) → Calls Tryd.prog 11 #[zoneV ((m : Int) - 1) A1 (L) c1] W (RetL W m R L)) := Lib.hid fun W ba A1 c1 z => by
    subst hL
    exact (close_back h0 h7 z).mono fun _ _ h => RetC.len rfl h
  have HSs : Hid (∀ W ba bb A1 c1 A2 c2, ZRes W ba m R (zoneV ((m : Int) - 1) A1 (L) c1) → ZRes W bb m R (zoneV ((m : Int) - 1) A2 (L) c2) → Calls Tryd.prog 20 #[zoneV ((m : Int) - 1) A1 (L) c1, zoneV ((m : Int) - 1) A2 (L) c2] W (RetB W true)) := Lib.hid fun W ba bb A1 c1 A2 c2 z1 z2 => by
    subst hL
    have q := same_any (Ra := R) (Rb := R) h0 h7 (fun W1 hb => close_back h0 h7 (z1.below hb)) (fun W1 hb => close_back h0 h7 (z2.below hb))
    rw [same_me] at q
    exact q
  generalize textZ m R = s at *
  have hbw := zboxed w (.cells #[.int .i64 N, .slice A len cap] 24)
  have HB := Lib.hid hbw
  have HD := Lib.hid (Duo.new w 24 (.int .i64 N) (.slice A len cap))
  have k0 := HD.out.cell0
  have k1 := HD.out.cell1
  have bb : (b == b) = true := by simp
  clear ha ht hl hbw HR HA HT
  go_enter Tryd.func3, Tryd.ntmps3
  go_wp2_with (first
    | (go_at_call 9; ((with_reducible refine (HFew.out _).mono ?_); rintro e v1 ⟨rfl, hb1⟩); have B1 := Lib.hid (HB.out.trans (hb1.mono HB.out.size)); have D1 := Lib.hid (HD.out.below hb1); have k0 := D1.out.cell0; have k1 := D1.out.cell1; clear hb1)
    | (go_at_call 12; ((with_reducible refine (of_zone _ N A len cap).mono ?_); rintro e v2 ⟨rfl, hb2⟩); have B2 := Lib.hid (B1.out.trans (hb2.mono B1.out.size)); have D2 := Lib.hid (D1.out.below hb2); clear hb2)
    | (go_at_call 11; have hb := B2.out; ((with_reducible refine (HCl.out _ hb).mono ?_); rintro e v3 ⟨B, cc, rfl, hz3, hb3⟩); have B3 := Lib.hid (B2.out.trans (hb3.mono B2.out.size)); have D3 := Lib.hid (D2.out.below hb3); have Z3 := Lib.hid hz3; clear hb3 hz3 hb))
  have hM0 : CL w N A len cap v3.heap.size m R L B cc (v3.alloc (.cells #[.int .i64 ((m : Int) - 1), .slice B (L) cc] 27)) :=
    ⟨B3.out.alloc B3.out.size _, D3.out.alloc _, Duo.new v3 _ _ _, (Z3.out.below (zboxed _ _)).lower (Nat.zero_le _)⟩
  obtain ⟨V, hV⟩ : ∃ V, v3.alloc (.cells #[.int .i64 ((m : Int) - 1), .slice B (L) cc] 27) = V := ⟨_, rfl⟩
  obtain ⟨bc, hbc⟩ : ∃ x, v3.heap.size = x := ⟨_, rfl⟩
  rw [hV] at hM0 ⊢
  rw [hbc] at hM0 ⊢
  clear hV hbc k0 k1 B1 B2 B3 D1 D2 D3 Z3
  have M0 := Lib.hid (hM0.below (Below.refl _ _).drew)
  clear hM0
  clear hL
  by_cases hn : L = 0
  · subst hn
    refine wp_region_held_drew (S := fun w' => (w'.cell? ⟨w.heap.size, 0, none⟩ = some (.int .i64 N) ∧ w'.cell? ⟨w.heap.size, 1, none⟩ = some (.slice A len cap)) ∧ w'.cell? ⟨bc, 0, none⟩ = some (.int .i64 ((m : Int) - 1)) ∧ w'.cell? ⟨bc, 1, none⟩ = some (.slice B 0 cc)) (by kernel_rfl) (M0.out.s) (fun hH0 => ?_)
    refine wpAnyH_ready (rs := [0]) (by kernel_rfl) (by simp) ?_
    refine AllReadyH.cons (o := ⟨some 11, _, _, _, _, _⟩) rfl (fun K hK => ?_) AllReadyH.nil
    go_simp
    refine (alive_any _).mono ?_
    rintro e w1 ⟨rfl, hb1⟩
    have M1 := Lib.hid (M0.out.below hb1); clear hb1
    go_wp2_with fail
    refine hK.out _ _ (M1.out.s) (fun hH1 => ?_)
    clear hK K hH0
    try simp only [Act.put, List.setIfInBounds_toArray, List.set_cons_zero, List.set_cons_succ]
    refine wpAnyH_take (i := 1) (oi := ⟨some 12, _, _, _, _, _⟩) (v := ?_) rfl (by kernel_rfl) (by kernel_rfl) (by kernel_rfl) (fun _ _ _ h => h) (Or.inl ⟨by rfl, ?_⟩) hH1 ?_
    rotate_left
    · intro w hSw
      try dsimp only at hSw
      go_simp
      try with_reducible rfl
    try simp only [Act.put, List.setIfInBounds_toArray, List.set_cons_zero, List.set_cons_succ]
    refine wpAnyH_take (i := 2) (oi := ⟨some 13, _, _, _, _, _⟩) (v := ?_) rfl (by kernel_rfl) (by kernel_rfl) (by kernel_rfl) (fun _ _ _ h => h) (Or.inl ⟨by rfl, ?_⟩) hH1 ?_
    rotate_left
    · intro w hSw
      try dsimp only at hSw
      go_simp
      try with_reducible rfl
    try simp only [Act.put, List.setIfInBounds_toArray, List.set_cons_zero, List.set_cons_succ]
    refine wpAnyH_take (i := 3) (oi := ⟨some 14, _, _, _, _, _⟩) (v := ?_) rfl (by kernel_rfl) (by kernel_rfl) (by kernel_rfl) (fun _ _ _ h => h) (Or.inl ⟨by rfl, ?_⟩) hH1 ?_
    rotate_left
    · intro w hSw
      try dsimp only at hSw
      go_simp
      try with_reducible rfl
    try simp only [Act.put, List.setIfInBounds_toArray, List.set_cons_zero, List.set_cons_succ]
    refine wpAnyH_ready (rs := [4]) (by kernel_rfl) (by simp) ?_
    refine AllReadyH.cons (o := ⟨some 15, _, _, _, _, _⟩) rfl (fun K hK => ?_) AllReadyH.nil
    go_simp
    refine (HRCl.out _ M1.out.low).mono ?_
    rintro e w2 ⟨A2, c2, rfl, hz2, hb2⟩
    have M2 := Lib.hid (M1.out.below hb2); have Z2 := Lib.hid hz2; clear hb2 hz2
    go_wp2_with fail
    refine hK.out _ _ (M2.out.s) (fun hH2 => ?_)
    clear hK K hH1
    try simp only [Act.put, List.setIfInBounds_toArray, List.set_cons_zero, List.set_cons_succ]
    refine wpAnyH_ready (rs := [5]) (by kernel_rfl) (by simp) ?_
    refine AllReadyH.cons (o := ⟨some 16, _, _, _, _, _⟩) rfl (fun K hK => ?_) AllReadyH.nil
    go_simp
    refine (HSm.out _ _ _ _ _ _ _ M2.out.cz Z2.out).mono ?_
    rintro e w3 ⟨rfl, hb3⟩
    have M3 := Lib.hid (M2.out.below hb3); clear hb3
    go_wp2_with fail
    refine hK.out _ _ (M3.out.s) (fun hH3 => ?_)
    clear hK K hH2
    try simp only [Act.put, List.setIfInBounds_toArray, List.set_cons_zero, List.set_cons_succ]
    refine wpAnyH_take (i := 6) (oi := ⟨some 17, _, _, _, _, _⟩) (v := ?_) rfl (by kernel_rfl) (by kernel_rfl) (by kernel_rfl) (fun _ _ _ h => h) (Or.inl ⟨by rfl, ?_⟩) hH3 ?_
    rotate_left
    · intro w hSw
      try dsimp only at hSw
      go_simp
      try with_reducible rfl
    try simp only [Act.put, List.setIfInBounds_toArray, List.set_cons_zero, List.set_cons_succ]
    refine wpAnyH_take (i := 7) (oi := ⟨some 18, _, _, _, _, _⟩) (v := ?_) rfl (by kernel_rfl) (by kernel_rfl) (by kernel_rfl) (fun _ _ _ h => h) (Or.inl ⟨by rfl, ?_⟩) hH3 ?_
    rotate_left
    · intro w hSw
      try dsimp only at hSw
      go_simp
      try with_reducible rfl
    try simp only [Act.put, List.setIfInBounds_toArray, List.set_cons_zero, List.set_cons_succ]
    refine wpAnyH_take (i := 8) (oi := ⟨some 19, _, _, _, _, _⟩) (v := ?_) rfl (by kernel_rfl) (by kernel_rfl) (by kernel_rfl) (fun _ _ _ h => h) (Or.inl ⟨by rfl, ?_⟩) hH3 ?_
    rotate_left
    · intro w hSw
      try dsimp only at hSw
      go_simp
      try with_reducible rfl
    try simp only [Act.put, List.setIfInBounds_toArray, List.set_cons_zero, List.set_cons_succ]
    refine wpAnyH_take (i := 11) (oi := ⟨some 22, _, _, _, _, _⟩) (v := ?_) rfl (by kernel_rfl) (by kernel_rfl) (by kernel_rfl) (fun _ _ _ h => h) (Or.inl ⟨by rfl, ?_⟩) hH3 ?_
    rotate_left
    · intro w hSw
      try dsimp only at hSw
      go_simp
      try with_reducible rfl
    try simp only [Act.put, List.setIfInBounds_toArray, List.set_cons_zero, List.set_cons_succ]
    refine wpAnyH_ready (rs := [9]) (by kernel_rfl) (by simp) ?_
    refine AllReadyH.cons (o := ⟨some 20, _, _, _, _, _⟩) rfl (fun K hK => ?_) AllReadyH.nil
    go_simp
    refine (of_zone _ N A len cap).mono ?_
    rintro e w4 ⟨rfl, hb4⟩
    have M4 := Lib.hid (M3.out.below hb4); clear hb4
    go_wp2_with fail
    refine hK.out _ _ (M4.out.s) (fun hH4 => ?_)
    clear hK K hH3
    try simp only [Act.put, List.setIfInBounds_toArray, List.set_cons_zero, List.set_cons_succ]
    refine wpAnyH_ready (rs := [10]) (by kernel_rfl) (by simp) ?_
    refine AllReadyH.cons (o := ⟨some 21, _, _, _, _, _⟩) rfl (fun K hK => ?_) AllReadyH.nil
    go_simp
    refine (HRi.out _ M4.out.low).mono ?_
    rintro e w5 ⟨rfl, hb5⟩
    have M5 := Lib.hid (M4.out.below hb5); clear hb5
    go_wp2_with fail
    refine hK.out _ _ (M5.out.s) (fun hH5 => ?_)
    clear hK K hH4
    try simp only [Act.put, List.setIfInBounds_toArray, List.set_cons_zero, List.set_cons_succ]
    refine wpAnyH_ready (rs := [12]) (by kernel_rfl) (by simp) ?_
    refine AllReadyH.cons (o := ⟨some 23, _, _, _, _, _⟩) rfl (fun K hK => ?_) AllReadyH.nil
    go_simp
    refine (HRr.out _ M5.out.low).mono ?_
    rintro e w6 ⟨rfl, hb6⟩
    have M6 := Lib.hid (M5.out.below hb6); clear hb6
    go_wp2_with fail
    refine hK.out _ _ (M6.out.s) (fun hH6 => ?_)
    clear hK K hH5
    try simp only [Act.put, List.setIfInBounds_toArray, List.set_cons_zero, List.set_cons_succ]
    refine wpAnyH_take (i := 13) (oi := ⟨some 24, _, _, _, _, _⟩) (v := ?_) rfl (by kernel_rfl) (by kernel_rfl) (by kernel_rfl) (fun _ _ _ h => h) (Or.inl ⟨by rfl, ?_⟩) hH6 ?_
    rotate_left
    · intro w hSw
      try dsimp only at hSw
      go_simp
      try with_reducible rfl
    try simp only [Act.put, List.setIfInBounds_toArray, List.set_cons_zero, List.set_cons_succ]
    refine wpAnyH_take (i := 14) (oi := ⟨some 25, _, _, _, _, _⟩) (v := ?_) rfl (by kernel_rfl) (by kernel_rfl) (by kernel_rfl) (fun _ _ _ h => h) (Or.inl ⟨by rfl, ?_⟩) hH6 ?_
    rotate_left
    · intro w hSw
      try dsimp only at hSw
      go_simp
      try with_reducible rfl
    try simp only [Act.put, List.setIfInBounds_toArray, List.set_cons_zero, List.set_cons_succ]
    refine wpAnyH_take (i := 15) (oi := ⟨some 26, _, _, _, _, _⟩) (v := ?_) rfl (by kernel_rfl) (by kernel_rfl) (by kernel_rfl) (fun _ _ _ h => h) (Or.inl ⟨by rfl, ?_⟩) hH6 ?_
    rotate_left
    · intro w hSw
      try dsimp only at hSw
      go_simp
      try with_reducible rfl
    try simp only [Act.put, List.setIfInBounds_toArray, List.set_cons_zero, List.set_cons_succ]
    refine wpAnyH_take (i := 16) (oi := ⟨some 27, _, _, _, _, _⟩) (v := ?_) rfl (by kernel_rfl) (by kernel_rfl) (by kernel_rfl) (fun _ _ _ h => h) (Or.inl ⟨by rfl, ?_⟩) hH6 ?_
    rotate_left
    · intro w hSw
      try dsimp only at hSw
      go_simp
      try with_reducible rfl
    try simp only [Act.put, List.setIfInBounds_toArray, List.set_cons_zero, List.set_cons_succ]
    refine wpAnyH_ready (rs := [17]) (by kernel_rfl) (by simp) ?_
    refine AllReadyH.cons (o := ⟨some 28, _, _, _, _, _⟩) rfl (fun K hK => ?_) AllReadyH.nil
    go_simp
    refine (HRc.out _ _ _ _ M6.out.cz (Nat.zero_le _)).mono ?_
    rintro e w7 ⟨rfl, hb7⟩
    have M7 := Lib.hid (M6.out.below hb7); clear hb7
    go_wp2_with fail
    refine hK.out _ _ (M7.out.s) (fun hH7 => ?_)
    clear hK K hH6
    try simp only [Act.put, List.setIfInBounds_toArray, List.set_cons_zero, List.set_cons_succ]
    refine wpAnyH_take (i := 18) (oi := ⟨some 29, _, _, _, _, _⟩) (v := ?_) rfl (by kernel_rfl) (by kernel_rfl) (by kernel_rfl) (fun _ _ _ h => h) (Or.inl ⟨by rfl, ?_⟩) hH7 ?_
    rotate_left
    · intro w hSw
      try dsimp only at hSw
      go_simp
      try with_reducible rfl
    try simp only [Act.put, List.setIfInBounds_toArray, List.set_cons_zero, List.set_cons_succ]
    refine wpAnyH_take (i := 19) (oi := ⟨some 30, _, _, _, _, _⟩) (v := ?_) rfl (by kernel_rfl) (by kernel_rfl) (by kernel_rfl) (fun _ _ _ h => h) (Or.inl ⟨by rfl, ?_⟩) hH7 ?_
    rotate_left
    · intro w hSw
      try dsimp only at hSw
      go_simp
      try with_reducible rfl
    try simp only [Act.put, List.setIfInBounds_toArray, List.set_cons_zero, List.set_cons_succ]
    refine wpAnyH_take (i := 20) (oi := ⟨some 31, _, _, _, _, _⟩) (v := ?_) rfl (by kernel_rfl) (by kernel_rfl) (by kernel_rfl) (fun _ _ _ h => h) (Or.inl ⟨by rfl, ?_⟩) hH7 ?_
    rotate_left
    · intro w hSw
      try dsimp only at hSw
      go_simp
      try with_reducible rfl
    try simp only [Act.put, List.setIfInBounds_toArray, List.set_cons_zero, List.set_cons_succ]
    refine wpAnyH_take (i := 23) (oi := ⟨some 34, _, _, _, _, _⟩) (v := ?_) rfl (by kernel_rfl) (by kernel_rfl) (by kernel_rfl) (fun _ _ _ h => h) (Or.inl ⟨by rfl, ?_⟩) hH7 ?_
    rotate_left
    · intro w hSw
      try dsimp only at hSw
      go_simp
      try with_reducible rfl
    try simp only [Act.put, List.setIfInBounds_toArray, List.set_cons_zero, List.set_cons_succ]
    refine wpAnyH_ready (rs := [21]) (by kernel_rfl) (by simp) ?_
    refine AllReadyH.cons (o := ⟨some 32, _, _, _, _, _⟩) rfl (fun K hK => ?_) AllReadyH.nil
    go_simp
    refine (of_zone _ N A len cap).mono ?_
    rintro e w8 ⟨rfl, hb8⟩
    have M8 := Lib.hid (M7.out.below hb8); clear hb8
    go_wp2_with fail
    refine hK.out _ _ (M8.out.s) (fun hH8 => ?_)
    clear hK K hH7
    try simp only [Act.put, List.setIfInBounds_toArray, List.set_cons_zero, List.set_cons_succ]
    refine wpAnyH_ready (rs := [22]) (by kernel_rfl) (by simp) ?_
    refine AllReadyH.cons (o := ⟨some 33, _, _, _, _, _⟩) rfl (fun K hK => ?_) AllReadyH.nil
    go_simp
    refine (HTx.out _ M8.out.low).mono ?_
    rintro e w9 ⟨rfl, hb9⟩
    have M9 := Lib.hid (M8.out.below hb9); clear hb9
    go_wp2_with fail
    refine hK.out _ _ (M9.out.s) (fun hH9 => ?_)
    clear hK K hH8
    try simp only [Act.put, List.setIfInBounds_toArray, List.set_cons_zero, List.set_cons_succ]
    refine wpAnyH_ready (rs := [24]) (by kernel_rfl) (by simp) ?_
    refine AllReadyH.cons (o := ⟨some 35, _, _, _, _, _⟩) rfl (fun K hK => ?_) AllReadyH.nil
    go_simp
    refine (HCn.out _ M9.out.low).mono ?_
    rintro e w10 ⟨A10, c10, rfl, hz10, hb10⟩
    have M10 := Lib.hid (M9.out.below hb10); have Z10 := Lib.hid hz10; clear hb10 hz10
    go_wp2_with fail
    refine hK.out _ _ (M10.out.s) (fun hH10 => ?_)
    clear hK K hH9
    try simp only [Act.put, List.setIfInBounds_toArray, List.set_cons_zero, List.set_cons_succ]
    refine wpAnyH_ready (rs := [25]) (by kernel_rfl) (by simp) ?_
    refine AllReadyH.cons (o := ⟨some 36, _, _, _, _, _⟩) rfl (fun K hK => ?_) AllReadyH.nil
    go_simp
    refine (HRt.out _ _ _ _ Z10.out).mono ?_
    rintro e w11 ⟨rfl, hb11⟩
    have M11 := Lib.hid (M10.out.below hb11); clear hb11
    go_wp2_with fail
    refine hK.out _ _ (M11.out.s) (fun hH11 => ?_)
    clear hK K hH10
    try simp only [Act.put, List.setIfInBounds_toArray, List.set_cons_zero, List.set_cons_succ]
    refine wpAnyH_take (i := 26) (oi := ⟨some 37, _, _, _, _, _⟩) (v := ?_) rfl (by kernel_rfl) (by kernel_rfl) (by kernel_rfl) (fun _ _ _ h => h) (Or.inl ⟨by rfl, ?_⟩) hH11 ?_
    rotate_left
    · intro w hSw
      try dsimp only at hSw
      go_simp
      try with_reducible rfl
    try simp only [Act.put, List.setIfInBounds_toArray, List.set_cons_zero, List.set_cons_succ]
    refine wpAnyH_take (i := 27) (oi := ⟨some 38, _, _, _, _, _⟩) (v := ?_) rfl (by kernel_rfl) (by kernel_rfl) (by kernel_rfl) (fun _ _ _ h => h) (Or.inl ⟨by rfl, ?_⟩) hH11 ?_
    rotate_left
    · intro w hSw
      try dsimp only at hSw
      go_simp
      try with_reducible rfl
    try simp only [Act.put, List.setIfInBounds_toArray, List.set_cons_zero, List.set_cons_succ]
    refine wpAnyH_take (i := 28) (oi := ⟨some 39, _, _, _, _, _⟩) (v := ?_) rfl (by kernel_rfl) (by kernel_rfl) (by kernel_rfl) (fun _ _ _ h => h) (Or.inl ⟨by rfl, ?_⟩) hH11 ?_
    rotate_left
    · intro w hSw
      try dsimp only at hSw
      go_simp
      try with_reducible rfl
    try simp only [Act.put, List.setIfInBounds_toArray, List.set_cons_zero, List.set_cons_succ]
    refine wpAnyH_take (i := 29) (oi := ⟨some 40, _, _, _, _, _⟩) (v := ?_) rfl (by kernel_rfl) (by kernel_rfl) (by kernel_rfl) (fun _ _ _ h => h) (Or.inl ⟨by rfl, ?_⟩) hH11 ?_
    rotate_left
    · intro w hSw
      try dsimp only at hSw
      go_simp
      try with_reducible rfl
    try simp only [Act.put, List.setIfInBounds_toArray, List.set_cons_zero, List.set_cons_succ]
    refine wpAnyH_take (i := 30) (oi := ⟨some 41, _, _, _, _, _⟩) (v := ?_) rfl (by kernel_rfl) (by kernel_rfl) (by kernel_rfl) (fun _ _ _ h => h) (Or.inl ⟨by rfl, ?_⟩) hH11 ?_
    rotate_left
    · intro w hSw
      try dsimp only at hSw
      go_simp
      try with_reducible rfl
    try simp only [Act.put, List.setIfInBounds_toArray, List.set_cons_zero, List.set_cons_succ]
    refine wpAnyH_take (i := 31) (oi := ⟨some 42, _, _, _, _, _⟩) (v := ?_) rfl (by kernel_rfl) (by kernel_rfl) (by kernel_rfl) (fun _ _ _ h => h) (Or.inl ⟨by rfl, ?_⟩) hH11 ?_
    rotate_left
    · intro w hSw
      try dsimp only at hSw
      go_simp
      try with_reducible rfl
    try simp only [Act.put, List.setIfInBounds_toArray, List.set_cons_zero, List.set_cons_succ]
    refine wpAnyH_take (i := 32) (oi := ⟨some 43, _, _, _, _, _⟩) (v := ?_) rfl (by kernel_rfl) (by kernel_rfl) (by kernel_rfl) (fun _ _ _ h => h) (Or.inl ⟨by rfl, ?_⟩) hH11 ?_
    rotate_left
    · intro w hSw
      try dsimp only at hSw
      go_simp
      try with_reducible rfl
    try simp only [Act.put, List.setIfInBounds_toArray, List.set_cons_zero, List.set_cons_succ]
    refine wpAnyH_take (i := 33) (oi := ⟨some 44, _, _, _, _, _⟩) (v := ?_) rfl (by kernel_rfl) (by kernel_rfl) (by kernel_rfl) (fun _ _ _ h => h) (Or.inl ⟨by rfl, ?_⟩) hH11 ?_
    rotate_left
    · intro w hSw
      try dsimp only at hSw
      go_simp
      try with_reducible rfl
    try simp only [Act.put, List.setIfInBounds_toArray, List.set_cons_zero, List.set_cons_succ]
    refine wpAnyH_take (i := 34) (oi := ⟨some 45, _, _, _, _, _⟩) (v := undef) rfl (by kernel_rfl) (by kernel_rfl) (by kernel_rfl) (fun _ _ _ h => h) (Or.inr ⟨by rfl, rfl⟩) hH11 ?_
    try simp only [Act.put, List.setIfInBounds_toArray, List.set_cons_zero, List.set_cons_succ]
    refine wpAnyH_take (i := 35) (oi := ⟨some 46, _, _, _, _, _⟩) (v := undef) rfl (by kernel_rfl) (by kernel_rfl) (by kernel_rfl) (fun _ _ _ h => h) (Or.inr ⟨by rfl, rfl⟩) hH11 ?_
    try simp only [Act.put, List.setIfInBounds_toArray, List.set_cons_zero, List.set_cons_succ]
    refine wpAnyH_take (i := 36) (oi := ⟨some 47, _, _, _, _, _⟩) (v := undef) rfl (by kernel_rfl) (by kernel_rfl) (by kernel_rfl) (fun _ _ _ h => h) (Or.inr ⟨by rfl, rfl⟩) hH11 ?_
    try simp only [Act.put, List.setIfInBounds_toArray, List.set_cons_zero, List.set_cons_succ]
    refine wpAnyH_take (i := 37) (oi := ⟨some 48, _, _, _, _, _⟩) (v := undef) rfl (by kernel_rfl) (by kernel_rfl) (by kernel_rfl) (fun _ _ _ h => h) (Or.inr ⟨by rfl, rfl⟩) hH11 ?_
    try simp only [Act.put, List.setIfInBounds_toArray, List.set_cons_zero, List.set_cons_succ]
    refine wpAnyH_take (i := 38) (oi := ⟨some 49, _, _, _, _, _⟩) (v := ?_) rfl (by kernel_rfl) (by kernel_rfl) (by kernel_rfl) (fun _ _ _ h => h) (Or.inl ⟨by rfl, ?_⟩) hH11 ?_
    rotate_left
    · intro w hSw
      try dsimp only at hSw
      go_simp
      try with_reducible rfl
    try simp only [Act.put, List.setIfInBounds_toArray, List.set_cons_zero, List.set_cons_succ]
    refine wpAnyH_take (i := 39) (oi := ⟨some 50, _, _, _, _, _⟩) (v := ?_) rfl (by kernel_rfl) (by kernel_rfl) (by kernel_rfl) (fun _ _ _ h => h) (Or.inl ⟨by rfl, ?_⟩) hH11 ?_
    rotate_left
    · intro w hSw
      try dsimp only at hSw
      go_simp
      try with_reducible rfl
    try simp only [Act.put, List.setIfInBounds_toArray, List.set_cons_zero, List.set_cons_succ]
    refine wpAnyH_take (i := 40) (oi := ⟨some 51, _, _, _, _, _⟩) (v := ?_) rfl (by kernel_rfl) (by kernel_rfl) (by kernel_rfl) (fun _ _ _ h => h) (Or.inl ⟨by rfl, ?_⟩) hH11 ?_
    rotate_left
    · intro w hSw
      try dsimp only at hSw
      go_simp
      try with_reducible rfl
    try simp only [Act.put, List.setIfInBounds_toArray, List.set_cons_zero, List.set_cons_succ]
    refine wpAnyH_take (i := 41) (oi := ⟨some 52, _, _, _, _, _⟩) (v := ?_) rfl (by kernel_rfl) (by kernel_rfl) (by kernel_rfl) (fun _ _ _ h => h) (Or.inl ⟨by rfl, ?_⟩) hH11 ?_
    rotate_left
    · intro w hSw
      try dsimp only at hSw
      go_simp
      try with_reducible rfl
    try simp only [Act.put, List.setIfInBounds_toArray, List.set_cons_zero, List.set_cons_succ]
    refine wpAnyH_take (i := 42) (oi := ⟨some 53, _, _, _, _, _⟩) (v := ?_) rfl (by kernel_rfl) (by kernel_rfl) (by kernel_rfl) (fun _ _ _ h => h) (Or.inl ⟨by rfl, ?_⟩) hH11 ?_
    rotate_left
    · intro w hSw
      try dsimp only at hSw
      go_simp
      try with_reducible rfl
    try simp only [Act.put, List.setIfInBounds_toArray, List.set_cons_zero, List.set_cons_succ]
    refine wpAnyH_take (i := 44) (oi := ⟨some 55, _, _, _, _, _⟩) (v := ?_) rfl (by kernel_rfl) (by kernel_rfl) (by kernel_rfl) (fun _ _ _ h => h) (Or.inl ⟨by rfl, ?_⟩) hH11 ?_
    rotate_left
    · intro w hSw
      try dsimp only at hSw
      go_simp
      try with_reducible rfl
    try simp only [Act.put, List.setIfInBounds_toArray, List.set_cons_zero, List.set_cons_succ]
    refine wpAnyH_take (i := 45) (oi := ⟨some 56, _, _, _, _, _⟩) (v := ?_) rfl (by kernel_rfl) (by kernel_rfl) (by kernel_rfl) (fun _ _ _ h => h) (Or.inl ⟨by rfl, ?_⟩) hH11 ?_
    rotate_left
    · intro w hSw
      try dsimp only at hSw
      go_simp
      try with_reducible rfl
    try simp only [Act.put, List.setIfInBounds_toArray, List.set_cons_zero, List.set_cons_succ]
    refine wpAnyH_ready (rs := [43]) (by kernel_rfl) (by simp) ?_
    refine AllReadyH.cons (o := ⟨some 54, _, _, _, _, _⟩) rfl (fun K hK => ?_) AllReadyH.nil
    go_simp
    refine (HTop.out _).mono ?_
    rintro e w12 ⟨A12, c12, rfl, hz12, hb12⟩
    have M12 := Lib.hid (M11.out.below hb12); have Z12 := Lib.hid hz12; clear hb12 hz12
    go_wp2_with fail
    refine hK.out _ _ (M12.out.s) (fun hH12 => ?_)
    clear hK K hH11
    try simp only [Act.put, List.setIfInBounds_toArray, List.set_cons_zero, List.set_cons_succ]
    refine wpAnyH_ready (rs := [46]) (by kernel_rfl) (by simp) ?_
    refine AllReadyH.cons (o := ⟨some 57, _, _, _, _, _⟩) rfl (fun K hK => ?_) AllReadyH.nil
    go_simp
    refine (HRTop.out _).mono ?_
    rintro e w13 ⟨A13, c13, rfl, hz13, hb13⟩
    have M13 := Lib.hid (M12.out.below hb13); have Z13 := Lib.hid hz13; have Z12' := Lib.hid (Z12.out.below hb13); clear hb13 hz13
    go_wp2_with fail
    refine hK.out _ _ (M13.out.s) (fun hH13 => ?_)
    clear hK K hH12
    try simp only [Act.put, List.setIfInBounds_toArray, List.set_cons_zero, List.set_cons_succ]
    refine wpAnyH_ready (rs := [47]) (by kernel_rfl) (by simp) ?_
    refine AllReadyH.cons (o := ⟨some 58, _, _, _, _, _⟩) rfl (fun K hK => ?_) AllReadyH.nil
    go_simp
    refine (HSmT.out _ _ _ _ _ _ _ Z12'.out Z13.out).mono ?_
    rintro e w14 ⟨rfl, hb14⟩
    have M14 := Lib.hid (M13.out.below hb14); clear hb14
    go_wp2_with fail
    refine hK.out _ _ (M14.out.s) (fun hH14 => ?_)
    clear hK K hH13
    try simp only [Act.put, List.setIfInBounds_toArray, List.set_cons_zero, List.set_cons_succ]
    refine wpAnyH_take (i := 48) (oi := ⟨some 59, _, _, _, _, _⟩) (v := ?_) rfl (by kernel_rfl) (by kernel_rfl) (by kernel_rfl) (fun _ _ _ h => h) (Or.inl ⟨by rfl, ?_⟩) hH14 ?_
    rotate_left
    · intro w hSw
      try dsimp only at hSw
      go_simp
      try with_reducible rfl
    try simp only [Act.put, List.setIfInBounds_toArray, List.set_cons_zero, List.set_cons_succ]
    refine wpAnyH_take (i := 49) (oi := ⟨some 60, _, _, _, _, _⟩) (v := ?_) rfl (by kernel_rfl) (by kernel_rfl) (by kernel_rfl) (fun _ _ _ h => h) (Or.inl ⟨by rfl, ?_⟩) hH14 ?_
    rotate_left
    · intro w hSw
      try dsimp only at hSw
      go_simp
      try with_reducible rfl
    try simp only [Act.put, List.setIfInBounds_toArray, List.set_cons_zero, List.set_cons_succ]
    refine wpAnyH_take (i := 50) (oi := ⟨some 61, _, _, _, _, _⟩) (v := ?_) rfl (by kernel_rfl) (by kernel_rfl) (by kernel_rfl) (fun _ _ _ h => h) (Or.inl ⟨by rfl, ?_⟩) hH14 ?_
    rotate_left
    · intro w hSw
      try dsimp only at hSw
      go_simp
      try with_reducible rfl
    try simp only [Act.put, List.setIfInBounds_toArray, List.set_cons_zero, List.set_cons_succ]
    refine wpAnyH_take (i := 51) (oi := ⟨some 62, _, _, _, _, _⟩) (v := ?_) rfl (by kernel_rfl) (by kernel_rfl) (by kernel_rfl) (fun _ _ _ h => h) (Or.inl ⟨by rfl, ?_⟩) hH14 ?_
    rotate_left
    · intro w hSw
      try dsimp only at hSw
      go_simp
      try with_reducible rfl
    try simp only [Act.put, List.setIfInBounds_toArray, List.set_cons_zero, List.set_cons_succ]
    refine wpAnyH_take (i := 53) (oi := ⟨some 64, _, _, _, _, _⟩) (v := ?_) rfl (by kernel_rfl) (by kernel_rfl) (by kernel_rfl) (fun _ _ _ h => h) (Or.inl ⟨by rfl, ?_⟩) hH14 ?_
    rotate_left
    · intro w hSw
      try dsimp only at hSw
      go_simp
      try with_reducible rfl
    try simp only [Act.put, List.setIfInBounds_toArray, List.set_cons_zero, List.set_cons_succ]
    refine wpAnyH_take (i := 54) (oi := ⟨some 65, _, _, _, _, _⟩) (v := ?_) rfl (by kernel_rfl) (by kernel_rfl) (by kernel_rfl) (fun _ _ _ h => h) (Or.inl ⟨by rfl, ?_⟩) hH14 ?_
    rotate_left
    · intro w hSw
      try dsimp only at hSw
      go_simp
      try with_reducible rfl
    try simp only [Act.put, List.setIfInBounds_toArray, List.set_cons_zero, List.set_cons_succ]
    refine wpAnyH_ready (rs := [52]) (by kernel_rfl) (by simp) ?_
    refine AllReadyH.cons (o := ⟨some 63, _, _, _, _, _⟩) rfl (fun K hK => ?_) AllReadyH.nil
    go_simp
    refine (HBot.out _).mono ?_
    rintro e w15 ⟨A15, c15, rfl, hz15, hb15⟩
    have M15 := Lib.hid (M14.out.below hb15); have Z15 := Lib.hid hz15; clear hb15 hz15
    go_wp2_with fail
    refine hK.out _ _ (M15.out.s) (fun hH15 => ?_)
    clear hK K hH14
    try simp only [Act.put, List.setIfInBounds_toArray, List.set_cons_zero, List.set_cons_succ]
    refine wpAnyH_ready (rs := [55]) (by kernel_rfl) (by simp) ?_
    refine AllReadyH.cons (o := ⟨some 66, _, _, _, _, _⟩) rfl (fun K hK => ?_) AllReadyH.nil
    go_simp
    refine (HRBot.out _).mono ?_
    rintro e w16 ⟨A16, c16, rfl, hz16, hb16⟩
    have M16 := Lib.hid (M15.out.below hb16); have Z16 := Lib.hid hz16; have Z15' := Lib.hid (Z15.out.below hb16); clear hb16 hz16
    go_wp2_with fail
    refine hK.out _ _ (M16.out.s) (fun hH16 => ?_)
    clear hK K hH15
    try simp only [Act.put, List.setIfInBounds_toArray, List.set_cons_zero, List.set_cons_succ]
    refine wpAnyH_ready (rs := [56]) (by kernel_rfl) (by simp) ?_
    refine AllReadyH.cons (o := ⟨some 67, _, _, _, _, _⟩) rfl (fun K hK => ?_) AllReadyH.nil
    go_simp
    refine (HSmB.out _ _ _ _ _ _ _ Z15'.out Z16.out).mono ?_
    rintro e w17 ⟨rfl, hb17⟩
    have M17 := Lib.hid (M16.out.below hb17); clear hb17
    go_wp2_with fail
    refine hK.out _ _ (M17.out.s) (fun hH17 => ?_)
    clear hK K hH16
    try simp only [Act.put, List.setIfInBounds_toArray, List.set_cons_zero, List.set_cons_succ]
    refine wpAnyH_take (i := 57) (oi := ⟨some 68, _, _, _, _, _⟩) (v := ?_) rfl (by kernel_rfl) (by kernel_rfl) (by kernel_rfl) (fun _ _ _ h => h) (Or.inl ⟨by rfl, ?_⟩) hH17 ?_
    rotate_left
    · intro w hSw
      try dsimp only at hSw
      go_simp
      try with_reducible rfl
    try simp only [Act.put, List.setIfInBounds_toArray, List.set_cons_zero, List.set_cons_succ]
    refine wpAnyH_take (i := 58) (oi := ⟨some 2, _, _, _, _, _⟩) (v := ?_) rfl (by kernel_rfl) (by kernel_rfl) (by kernel_rfl) (fun _ _ _ h => h) (Or.inl ⟨by rfl, ?_⟩) hH17 ?_
    rotate_left
    · intro w hSw
      try dsimp only at hSw
      go_simp
      try with_reducible rfl
    try simp only [Act.put, List.setIfInBounds_toArray, List.set_cons_zero, List.set_cons_succ]
    refine wpAnyH_done (by kernel_rfl) ?_ _
    go_wp2_with fail
    go_ret
    exact ⟨rfl, M17.out.low⟩
  · have n1 : (((L : Nat) : Int) == 0) = false := by simp; omega
    have n2 : decide (L = 0) = false := decide_eq_false hn
    have n3 : decide (((L : Nat) : Int) = 0) = false := decide_eq_false (by omega)
    refine wp_region_held_drew (S := fun w' => (w'.cell? ⟨w.heap.size, 0, none⟩ = some (.int .i64 N) ∧ w'.cell? ⟨w.heap.size, 1, none⟩ = some (.slice A len cap)) ∧ w'.cell? ⟨bc, 0, none⟩ = some (.int .i64 ((m : Int) - 1)) ∧ w'.cell? ⟨bc, 1, none⟩ = some (.slice B L cc)) (by kernel_rfl) (M0.out.s) (fun hH0 => ?_)
    refine wpAnyH_ready (rs := [0]) (by kernel_rfl) (by simp) ?_
    refine AllReadyH.cons (o := ⟨some 11, _, _, _, _, _⟩) rfl (fun K hK => ?_) AllReadyH.nil
    go_simp
    refine (alive_any _).mono ?_
    rintro e w1 ⟨rfl, hb1⟩
    have M1 := Lib.hid (M0.out.below hb1); clear hb1
    go_wp2_with fail
    refine hK.out _ _ (M1.out.s) (fun hH1 => ?_)
    clear hK K hH0
    try simp only [Act.put, List.setIfInBounds_toArray, List.set_cons_zero, List.set_cons_succ]
    refine wpAnyH_take (i := 1) (oi := ⟨some 12, _, _, _, _, _⟩) (v := ?_) rfl (by kernel_rfl) (by kernel_rfl) (by kernel_rfl) (fun _ _ _ h => h) (Or.inl ⟨by rfl, ?_⟩) hH1 ?_
    rotate_left
    · intro w hSw
      try dsimp only at hSw
      go_simp
      try with_reducible rfl
    try simp only [Act.put, List.setIfInBounds_toArray, List.set_cons_zero, List.set_cons_succ]
    refine wpAnyH_take (i := 2) (oi := ⟨some 13, _, _, _, _, _⟩) (v := ?_) rfl (by kernel_rfl) (by kernel_rfl) (by kernel_rfl) (fun _ _ _ h => h) (Or.inl ⟨by rfl, ?_⟩) hH1 ?_
    rotate_left
    · intro w hSw
      try dsimp only at hSw
      go_simp
      try with_reducible rfl
    try simp only [Act.put, List.setIfInBounds_toArray, List.set_cons_zero, List.set_cons_succ]
    refine wpAnyH_take (i := 3) (oi := ⟨some 14, _, _, _, _, _⟩) (v := ?_) rfl (by kernel_rfl) (by kernel_rfl) (by kernel_rfl) (fun _ _ _ h => h) (Or.inl ⟨by rfl, ?_⟩) hH1 ?_
    rotate_left
    · intro w hSw
      try dsimp only at hSw
      go_simp
      try with_reducible rfl
    try simp only [Act.put, List.setIfInBounds_toArray, List.set_cons_zero, List.set_cons_succ]
    refine wpAnyH_ready (rs := [4]) (by kernel_rfl) (by simp) ?_
    refine AllReadyH.cons (o := ⟨some 15, _, _, _, _, _⟩) rfl (fun K hK => ?_) AllReadyH.nil
    go_simp
    refine (HRCl.out _ M1.out.low).mono ?_
    rintro e w2 ⟨A2, c2, rfl, hz2, hb2⟩
    have M2 := Lib.hid (M1.out.below hb2); have Z2 := Lib.hid hz2; clear hb2 hz2
    go_wp2_with fail
    refine hK.out _ _ (M2.out.s) (fun hH2 => ?_)
    clear hK K hH1
    try simp only [Act.put, List.setIfInBounds_toArray, List.set_cons_zero, List.set_cons_succ]
    refine wpAnyH_ready (rs := [5]) (by kernel_rfl) (by simp) ?_
    refine AllReadyH.cons (o := ⟨some 16, _, _, _, _, _⟩) rfl (fun K hK => ?_) AllReadyH.nil
    go_simp
    refine (HSm.out _ _ _ _ _ _ _ M2.out.cz Z2.out).mono ?_
    rintro e w3 ⟨rfl, hb3⟩
    have M3 := Lib.hid (M2.out.below hb3); clear hb3
    go_wp2_with fail
    refine hK.out _ _ (M3.out.s) (fun hH3 => ?_)
    clear hK K hH2
    try simp only [Act.put, List.setIfInBounds_toArray, List.set_cons_zero, List.set_cons_succ]
    refine wpAnyH_take (i := 6) (oi := ⟨some 17, _, _, _, _, _⟩) (v := ?_) rfl (by kernel_rfl) (by kernel_rfl) (by kernel_rfl) (fun _ _ _ h => h) (Or.inl ⟨by rfl, ?_⟩) hH3 ?_
    rotate_left
    · intro w hSw
      try dsimp only at hSw
      go_simp
      try with_reducible rfl
    try simp only [Act.put, List.setIfInBounds_toArray, List.set_cons_zero, List.set_cons_succ]
    refine wpAnyH_take (i := 7) (oi := ⟨some 18, _, _, _, _, _⟩) (v := ?_) rfl (by kernel_rfl) (by kernel_rfl) (by kernel_rfl) (fun _ _ _ h => h) (Or.inl ⟨by rfl, ?_⟩) hH3 ?_
    rotate_left
    · intro w hSw
      try dsimp only at hSw
      go_simp
      try with_reducible rfl
    try simp only [Act.put, List.setIfInBounds_toArray, List.set_cons_zero, List.set_cons_succ]
    refine wpAnyH_take (i := 8) (oi := ⟨some 19, _, _, _, _, _⟩) (v := ?_) rfl (by kernel_rfl) (by kernel_rfl) (by kernel_rfl) (fun _ _ _ h => h) (Or.inl ⟨by rfl, ?_⟩) hH3 ?_
    rotate_left
    · intro w hSw
      try dsimp only at hSw
      go_simp
      try with_reducible rfl
    try simp only [Act.put, List.setIfInBounds_toArray, List.set_cons_zero, List.set_cons_succ]
    refine wpAnyH_take (i := 11) (oi := ⟨some 22, _, _, _, _, _⟩) (v := ?_) rfl (by kernel_rfl) (by kernel_rfl) (by kernel_rfl) (fun _ _ _ h => h) (Or.inl ⟨by rfl, ?_⟩) hH3 ?_
    rotate_left
    · intro w hSw
      try dsimp only at hSw
      go_simp
      try with_reducible rfl
    try simp only [Act.put, List.setIfInBounds_toArray, List.set_cons_zero, List.set_cons_succ]
    refine wpAnyH_ready (rs := [9]) (by kernel_rfl) (by simp) ?_
    refine AllReadyH.cons (o := ⟨some 20, _, _, _, _, _⟩) rfl (fun K hK => ?_) AllReadyH.nil
    go_simp
    refine (of_zone _ N A len cap).mono ?_
    rintro e w4 ⟨rfl, hb4⟩
    have M4 := Lib.hid (M3.out.below hb4); clear hb4
    go_wp2_with fail
    refine hK.out _ _ (M4.out.s) (fun hH4 => ?_)
    clear hK K hH3
    try simp only [Act.put, List.setIfInBounds_toArray, List.set_cons_zero, List.set_cons_succ]
    refine wpAnyH_ready (rs := [10]) (by kernel_rfl) (by simp) ?_
    refine AllReadyH.cons (o := ⟨some 21, _, _, _, _, _⟩) rfl (fun K hK => ?_) AllReadyH.nil
    go_simp
    refine (HRi.out _ M4.out.low).mono ?_
    rintro e w5 ⟨rfl, hb5⟩
    have M5 := Lib.hid (M4.out.below hb5); clear hb5
    go_wp2_with fail
    refine hK.out _ _ (M5.out.s) (fun hH5 => ?_)
    clear hK K hH4
    try simp only [Act.put, List.setIfInBounds_toArray, List.set_cons_zero, List.set_cons_succ]
    refine wpAnyH_ready (rs := [12]) (by kernel_rfl) (by simp) ?_
    refine AllReadyH.cons (o := ⟨some 23, _, _, _, _, _⟩) rfl (fun K hK => ?_) AllReadyH.nil
    go_simp
    refine (HRr.out _ M5.out.low).mono ?_
    rintro e w6 ⟨rfl, hb6⟩
    have M6 := Lib.hid (M5.out.below hb6); clear hb6
    go_wp2_with fail
    refine hK.out _ _ (M6.out.s) (fun hH6 => ?_)
    clear hK K hH5
    try simp only [Act.put, List.setIfInBounds_toArray, List.set_cons_zero, List.set_cons_succ]
    refine wpAnyH_take (i := 13) (oi := ⟨some 24, _, _, _, _, _⟩) (v := ?_) rfl (by kernel_rfl) (by kernel_rfl) (by kernel_rfl) (fun _ _ _ h => h) (Or.inl ⟨by rfl, ?_⟩) hH6 ?_
    rotate_left
    · intro w hSw
      try dsimp only at hSw
      go_simp
      try with_reducible rfl
    try simp only [Act.put, List.setIfInBounds_toArray, List.set_cons_zero, List.set_cons_succ]
    refine wpAnyH_take (i := 14) (oi := ⟨some 25, _, _, _, _, _⟩) (v := ?_) rfl (by kernel_rfl) (by kernel_rfl) (by kernel_rfl) (fun _ _ _ h => h) (Or.inl ⟨by rfl, ?_⟩) hH6 ?_
    rotate_left
    · intro w hSw
      try dsimp only at hSw
      go_simp
      try with_reducible rfl
    try simp only [Act.put, List.setIfInBounds_toArray, List.set_cons_zero, List.set_cons_succ]
    refine wpAnyH_take (i := 15) (oi := ⟨some 26, _, _, _, _, _⟩) (v := ?_) rfl (by kernel_rfl) (by kernel_rfl) (by kernel_rfl) (fun _ _ _ h => h) (Or.inl ⟨by rfl, ?_⟩) hH6 ?_
    rotate_left
    · intro w hSw
      try dsimp only at hSw
      go_simp
      try with_reducible rfl
    try simp only [Act.put, List.setIfInBounds_toArray, List.set_cons_zero, List.set_cons_succ]
    refine wpAnyH_take (i := 16) (oi := ⟨some 27, _, _, _, _, _⟩) (v := ?_) rfl (by kernel_rfl) (by kernel_rfl) (by kernel_rfl) (fun _ _ _ h => h) (Or.inl ⟨by rfl, ?_⟩) hH6 ?_
    rotate_left
    · intro w hSw
      try dsimp only at hSw
      go_simp
      try with_reducible rfl
    try simp only [Act.put, List.setIfInBounds_toArray, List.set_cons_zero, List.set_cons_succ]
    refine wpAnyH_ready (rs := [17]) (by kernel_rfl) (by simp) ?_
    refine AllReadyH.cons (o := ⟨some 28, _, _, _, _, _⟩) rfl (fun K hK => ?_) AllReadyH.nil
    go_simp
    refine (HRc.out _ _ _ _ M6.out.cz (Nat.zero_le _)).mono ?_
    rintro e w7 ⟨rfl, hb7⟩
    have M7 := Lib.hid (M6.out.below hb7); clear hb7
    go_wp2_with fail
    refine hK.out _ _ (M7.out.s) (fun hH7 => ?_)
    clear hK K hH6
    try simp only [Act.put, List.setIfInBounds_toArray, List.set_cons_zero, List.set_cons_succ]
    refine wpAnyH_take (i := 18) (oi := ⟨some 29, _, _, _, _, _⟩) (v := ?_) rfl (by kernel_rfl) (by kernel_rfl) (by kernel_rfl) (fun _ _ _ h => h) (Or.inl ⟨by rfl, ?_⟩) hH7 ?_
    rotate_left
    · intro w hSw
      try dsimp only at hSw
      go_simp
      try with_reducible rfl
    try simp only [Act.put, List.setIfInBounds_toArray, List.set_cons_zero, List.set_cons_succ]
    refine wpAnyH_take (i := 19) (oi := ⟨some 30, _, _, _, _, _⟩) (v := ?_) rfl (by kernel_rfl) (by kernel_rfl) (by kernel_rfl) (fun _ _ _ h => h) (Or.inl ⟨by rfl, ?_⟩) hH7 ?_
    rotate_left
    · intro w hSw
      try dsimp only at hSw
      go_simp
      try with_reducible rfl
    try simp only [Act.put, List.setIfInBounds_toArray, List.set_cons_zero, List.set_cons_succ]
    refine wpAnyH_take (i := 20) (oi := ⟨some 31, _, _, _, _, _⟩) (v := ?_) rfl (by kernel_rfl) (by kernel_rfl) (by kernel_rfl) (fun _ _ _ h => h) (Or.inl ⟨by rfl, ?_⟩) hH7 ?_
    rotate_left
    · intro w hSw
      try dsimp only at hSw
      go_simp
      try with_reducible rfl
    try simp only [Act.put, List.setIfInBounds_toArray, List.set_cons_zero, List.set_cons_succ]
    refine wpAnyH_take (i := 23) (oi := ⟨some 34, _, _, _, _, _⟩) (v := ?_) rfl (by kernel_rfl) (by kernel_rfl) (by kernel_rfl) (fun _ _ _ h => h) (Or.inl ⟨by rfl, ?_⟩) hH7 ?_
    rotate_left
    · intro w hSw
      try dsimp only at hSw
      go_simp
      try with_reducible rfl
    try simp only [Act.put, List.setIfInBounds_toArray, List.set_cons_zero, List.set_cons_succ]
    refine wpAnyH_ready (rs := [21]) (by kernel_rfl) (by simp) ?_
    refine AllReadyH.cons (o := ⟨some 32, _, _, _, _, _⟩) rfl (fun K hK => ?_) AllReadyH.nil
    go_simp
    refine (of_zone _ N A len cap).mono ?_
    rintro e w8 ⟨rfl, hb8⟩
    have M8 := Lib.hid (M7.out.below hb8); clear hb8
    go_wp2_with fail
    refine hK.out _ _ (M8.out.s) (fun hH8 => ?_)
    clear hK K hH7
    try simp only [Act.put, List.setIfInBounds_toArray, List.set_cons_zero, List.set_cons_succ]
    refine wpAnyH_ready (rs := [22]) (by kernel_rfl) (by simp) ?_
    refine AllReadyH.cons (o := ⟨some 33, _, _, _, _, _⟩) rfl (fun K hK => ?_) AllReadyH.nil
    go_simp
    refine (HTx.out _ M8.out.low).mono ?_
    rintro e w9 ⟨rfl, hb9⟩
    have M9 := Lib.hid (M8.out.below hb9); clear hb9
    go_wp2_with fail
    refine hK.out _ _ (M9.out.s) (fun hH9 => ?_)
    clear hK K hH8
    try simp only [Act.put, List.setIfInBounds_toArray, List.set_cons_zero, List.set_cons_succ]
    refine wpAnyH_ready (rs := [24]) (by kernel_rfl) (by simp) ?_
    refine AllReadyH.cons (o := ⟨some 35, _, _, _, _, _⟩) rfl (fun K hK => ?_) AllReadyH.nil
    go_simp
    refine (HCn.out _ M9.out.low).mono ?_
    rintro e w10 ⟨A10, c10, rfl, hz10, hb10⟩
    have M10 := Lib.hid (M9.out.below hb10); have Z10 := Lib.hid hz10; clear hb10 hz10
    go_wp2_with fail
    refine hK.out _ _ (M10.out.s) (fun hH10 => ?_)
    clear hK K hH9
    try simp only [Act.put, List.setIfInBounds_toArray, List.set_cons_zero, List.set_cons_succ]
    refine wpAnyH_ready (rs := [25]) (by kernel_rfl) (by simp) ?_
    refine AllReadyH.cons (o := ⟨some 36, _, _, _, _, _⟩) rfl (fun K hK => ?_) AllReadyH.nil
    go_simp
    refine (HRt.out _ _ _ _ Z10.out).mono ?_
    rintro e w11 ⟨rfl, hb11⟩
    have M11 := Lib.hid (M10.out.below hb11); clear hb11
    go_wp2_with fail
    refine hK.out _ _ (M11.out.s) (fun hH11 => ?_)
    clear hK K hH10
    try simp only [Act.put, List.setIfInBounds_toArray, List.set_cons_zero, List.set_cons_succ]
    refine wpAnyH_take (i := 26) (oi := ⟨some 37, _, _, _, _, _⟩) (v := ?_) rfl (by kernel_rfl) (by kernel_rfl) (by kernel_rfl) (fun _ _ _ h => h) (Or.inl ⟨by rfl, ?_⟩) hH11 ?_
    rotate_left
    · intro w hSw
      try dsimp only at hSw
      go_simp
      try with_reducible rfl
    try simp only [Act.put, List.setIfInBounds_toArray, List.set_cons_zero, List.set_cons_succ]
    refine wpAnyH_take (i := 27) (oi := ⟨some 38, _, _, _, _, _⟩) (v := ?_) rfl (by kernel_rfl) (by kernel_rfl) (by kernel_rfl) (fun _ _ _ h => h) (Or.inl ⟨by rfl, ?_⟩) hH11 ?_
    rotate_left
    · intro w hSw
      try dsimp only at hSw
      go_simp
      try with_reducible rfl
    try simp only [Act.put, List.setIfInBounds_toArray, List.set_cons_zero, List.set_cons_succ]
    refine wpAnyH_take (i := 28) (oi := ⟨some 39, _, _, _, _, _⟩) (v := ?_) rfl (by kernel_rfl) (by kernel_rfl) (by kernel_rfl) (fun _ _ _ h => h) (Or.inl ⟨by rfl, ?_⟩) hH11 ?_
    rotate_left
    · intro w hSw
      try dsimp only at hSw
      go_simp
      try with_reducible rfl
    try simp only [Act.put, List.setIfInBounds_toArray, List.set_cons_zero, List.set_cons_succ]
    refine wpAnyH_take (i := 29) (oi := ⟨some 40, _, _, _, _, _⟩) (v := ?_) rfl (by kernel_rfl) (by kernel_rfl) (by kernel_rfl) (fun _ _ _ h => h) (Or.inl ⟨by rfl, ?_⟩) hH11 ?_
    rotate_left
    · intro w hSw
      try dsimp only at hSw
      go_simp
      try with_reducible rfl
    try simp only [Act.put, List.setIfInBounds_toArray, List.set_cons_zero, List.set_cons_succ]
    refine wpAnyH_take (i := 30) (oi := ⟨some 41, _, _, _, _, _⟩) (v := ?_) rfl (by kernel_rfl) (by kernel_rfl) (by kernel_rfl) (fun _ _ _ h => h) (Or.inl ⟨by rfl, ?_⟩) hH11 ?_
    rotate_left
    · intro w hSw
      try dsimp only at hSw
      go_simp
      try with_reducible rfl
    try simp only [Act.put, List.setIfInBounds_toArray, List.set_cons_zero, List.set_cons_succ]
    refine wpAnyH_take (i := 31) (oi := ⟨some 42, _, _, _, _, _⟩) (v := ?_) rfl (by kernel_rfl) (by kernel_rfl) (by kernel_rfl) (fun _ _ _ h => h) (Or.inl ⟨by rfl, ?_⟩) hH11 ?_
    rotate_left
    · intro w hSw
      try dsimp only at hSw
      go_simp
      try with_reducible rfl
    try simp only [Act.put, List.setIfInBounds_toArray, List.set_cons_zero, List.set_cons_succ]
    refine wpAnyH_take (i := 32) (oi := ⟨some 43, _, _, _, _, _⟩) (v := ?_) rfl (by kernel_rfl) (by kernel_rfl) (by kernel_rfl) (fun _ _ _ h => h) (Or.inl ⟨by rfl, ?_⟩) hH11 ?_
    rotate_left
    · intro w hSw
      try dsimp only at hSw
      go_simp
      try with_reducible rfl
    try simp only [Act.put, List.setIfInBounds_toArray, List.set_cons_zero, List.set_cons_succ]
    refine wpAnyH_take (i := 33) (oi := ⟨some 44, _, _, _, _, _⟩) (v := ?_) rfl (by kernel_rfl) (by kernel_rfl) (by kernel_rfl) (fun _ _ _ h => h) (Or.inl ⟨by rfl, ?_⟩) hH11 ?_
    rotate_left
    · intro w hSw
      try dsimp only at hSw
      go_simp
      try with_reducible rfl
    try simp only [Act.put, List.setIfInBounds_toArray, List.set_cons_zero, List.set_cons_succ]
    refine wpAnyH_take (i := 34) (oi := ⟨some 45, _, _, _, _, _⟩) (v := ?_) rfl (by kernel_rfl) (by kernel_rfl) (by kernel_rfl) (fun _ _ _ h => h) (Or.inl ⟨by rfl, ?_⟩) hH11 ?_
    rotate_left
    · intro w hSw
      try dsimp only at hSw
      go_simp
      try with_reducible rfl
    try simp only [Act.put, List.setIfInBounds_toArray, List.set_cons_zero, List.set_cons_succ]
    refine wpAnyH_take (i := 36) (oi := ⟨some 47, _, _, _, _, _⟩) (v := ?_) rfl (by kernel_rfl) (by kernel_rfl) (by kernel_rfl) (fun _ _ _ h => h) (Or.inl ⟨by rfl, ?_⟩) hH11 ?_
    rotate_left
    · intro w hSw
      try dsimp only at hSw
      go_simp
      try with_reducible rfl
    try simp only [Act.put, List.setIfInBounds_toArray, List.set_cons_zero, List.set_cons_succ]
    refine wpAnyH_ready (rs := [35]) (by kernel_rfl) (by simp) ?_
    refine AllReadyH.cons (o := ⟨some 46, _, _, _, _, _⟩) rfl (fun K hK => ?_) AllReadyH.nil
    go_simp
    refine (HCc.out _ _ _ _ M11.out.cz).mono ?_
    rintro e w12 ⟨A12, c12, rfl, hz12, hb12⟩
    have M12 := Lib.hid (M11.out.below hb12); have Z12 := Lib.hid hz12; clear hb12 hz12
    go_wp2_with fail
    refine hK.out _ _ (M12.out.s) (fun hH12 => ?_)
    clear hK K hH11
    try simp only [Act.put, List.setIfInBounds_toArray, List.set_cons_zero, List.set_cons_succ]
    refine wpAnyH_ready (rs := [37]) (by kernel_rfl) (by simp) ?_
    refine AllReadyH.cons (o := ⟨some 48, _, _, _, _, _⟩) rfl (fun K hK => ?_) AllReadyH.nil
    go_simp
    refine (HSs.out _ _ _ _ _ _ _ Z12.out M12.out.cz).mono ?_
    rintro e w13 ⟨rfl, hb13⟩
    have M13 := Lib.hid (M12.out.below hb13); clear hb13
    go_wp2_with fail
    refine hK.out _ _ (M13.out.s) (fun hH13 => ?_)
    clear hK K hH12
    try simp only [Act.put, List.setIfInBounds_toArray, List.set_cons_zero, List.set_cons_succ]
    refine wpAnyH_take (i := 38) (oi := ⟨some 49, _, _, _, _, _⟩) (v := ?_) rfl (by kernel_rfl) (by kernel_rfl) (by kernel_rfl) (fun _ _ _ h => h) (Or.inl ⟨by rfl, ?_⟩) hH13 ?_
    rotate_left
    · intro w hSw
      try dsimp only at hSw
      go_simp
      try with_reducible rfl
    try simp only [Act.put, List.setIfInBounds_toArray, List.set_cons_zero, List.set_cons_succ]
    refine wpAnyH_take (i := 39) (oi := ⟨some 50, _, _, _, _, _⟩) (v := ?_) rfl (by kernel_rfl) (by kernel_rfl) (by kernel_rfl) (fun _ _ _ h => h) (Or.inl ⟨by rfl, ?_⟩) hH13 ?_
    rotate_left
    · intro w hSw
      try dsimp only at hSw
      go_simp
      try with_reducible rfl
    try simp only [Act.put, List.setIfInBounds_toArray, List.set_cons_zero, List.set_cons_succ]
    refine wpAnyH_take (i := 40) (oi := ⟨some 51, _, _, _, _, _⟩) (v := ?_) rfl (by kernel_rfl) (by kernel_rfl) (by kernel_rfl) (fun _ _ _ h => h) (Or.inl ⟨by rfl, ?_⟩) hH13 ?_
    rotate_left
    · intro w hSw
      try dsimp only at hSw
      go_simp
      try with_reducible rfl
    try simp only [Act.put, List.setIfInBounds_toArray, List.set_cons_zero, List.set_cons_succ]
    refine wpAnyH_take (i := 41) (oi := ⟨some 52, _, _, _, _, _⟩) (v := ?_) rfl (by kernel_rfl) (by kernel_rfl) (by kernel_rfl) (fun _ _ _ h => h) (Or.inl ⟨by rfl, ?_⟩) hH13 ?_
    rotate_left
    · intro w hSw
      try dsimp only at hSw
      go_simp
      try with_reducible rfl
    try simp only [Act.put, List.setIfInBounds_toArray, List.set_cons_zero, List.set_cons_succ]
    refine wpAnyH_take (i := 42) (oi := ⟨some 53, _, _, _, _, _⟩) (v := ?_) rfl (by kernel_rfl) (by kernel_rfl) (by kernel_rfl) (fun _ _ _ h => h) (Or.inl ⟨by rfl, ?_⟩) hH13 ?_
    rotate_left
    · intro w hSw
      try dsimp only at hSw
      go_simp
      try with_reducible rfl
    try simp only [Act.put, List.setIfInBounds_toArray, List.set_cons_zero, List.set_cons_succ]
    refine wpAnyH_take (i := 44) (oi := ⟨some 55, _, _, _, _, _⟩) (v := ?_) rfl (by kernel_rfl) (by kernel_rfl) (by kernel_rfl) (fun _ _ _ h => h) (Or.inl ⟨by rfl, ?_⟩) hH13 ?_
    rotate_left
    · intro w hSw
      try dsimp only at hSw
      go_simp
      try with_reducible rfl
    try simp only [Act.put, List.setIfInBounds_toArray, List.set_cons_zero, List.set_cons_succ]
    refine wpAnyH_take (i := 45) (oi := ⟨some 56, _, _, _, _, _⟩) (v := ?_) rfl (by kernel_rfl) (by kernel_rfl) (by kernel_rfl) (fun _ _ _ h => h) (Or.inl ⟨by rfl, ?_⟩) hH13 ?_
    rotate_left
    · intro w hSw
      try dsimp only at hSw
      go_simp
      try with_reducible rfl
    try simp only [Act.put, List.setIfInBounds_toArray, List.set_cons_zero, List.set_cons_succ]
    refine wpAnyH_ready (rs := [43]) (by kernel_rfl) (by simp) ?_
    refine AllReadyH.cons (o := ⟨some 54, _, _, _, _, _⟩) rfl (fun K hK => ?_) AllReadyH.nil
    go_simp
    refine (HTop.out _).mono ?_
    rintro e w14 ⟨A14, c14, rfl, hz14, hb14⟩
    have M14 := Lib.hid (M13.out.below hb14); have Z14 := Lib.hid hz14; clear hb14 hz14
    go_wp2_with fail
    refine hK.out _ _ (M14.out.s) (fun hH14 => ?_)
    clear hK K hH13
    try simp only [Act.put, List.setIfInBounds_toArray, List.set_cons_zero, List.set_cons_succ]
    refine wpAnyH_ready (rs := [46]) (by kernel_rfl) (by simp) ?_
    refine AllReadyH.cons (o := ⟨some 57, _, _, _, _, _⟩) rfl (fun K hK => ?_) AllReadyH.nil
    go_simp
    refine (HRTop.out _).mono ?_
    rintro e w15 ⟨A15, c15, rfl, hz15, hb15⟩
    have M15 := Lib.hid (M14.out.below hb15); have Z15 := Lib.hid hz15; have Z14' := Lib.hid (Z14.out.below hb15); clear hb15 hz15
    go_wp2_with fail
    refine hK.out _ _ (M15.out.s) (fun hH15 => ?_)
    clear hK K hH14
    try simp only [Act.put, List.setIfInBounds_toArray, List.set_cons_zero, List.set_cons_succ]
    refine wpAnyH_ready (rs := [47]) (by kernel_rfl) (by simp) ?_
    refine AllReadyH.cons (o := ⟨some 58, _, _, _, _, _⟩) rfl (fun K hK => ?_) AllReadyH.nil
    go_simp
    refine (HSmT.out _ _ _ _ _ _ _ Z14'.out Z15.out).mono ?_
    rintro e w16 ⟨rfl, hb16⟩
    have M16 := Lib.hid (M15.out.below hb16); clear hb16
    go_wp2_with fail
    refine hK.out _ _ (M16.out.s) (fun hH16 => ?_)
    clear hK K hH15
    try simp only [Act.put, List.setIfInBounds_toArray, List.set_cons_zero, List.set_cons_succ]
    refine wpAnyH_take (i := 48) (oi := ⟨some 59, _, _, _, _, _⟩) (v := ?_) rfl (by kernel_rfl) (by kernel_rfl) (by kernel_rfl) (fun _ _ _ h => h) (Or.inl ⟨by rfl, ?_⟩) hH16 ?_
    rotate_left
    · intro w hSw
      try dsimp only at hSw
      go_simp
      try with_reducible rfl
    try simp only [Act.put, List.setIfInBounds_toArray, List.set_cons_zero, List.set_cons_succ]
    refine wpAnyH_take (i := 49) (oi := ⟨some 60, _, _, _, _, _⟩) (v := ?_) rfl (by kernel_rfl) (by kernel_rfl) (by kernel_rfl) (fun _ _ _ h => h) (Or.inl ⟨by rfl, ?_⟩) hH16 ?_
    rotate_left
    · intro w hSw
      try dsimp only at hSw
      go_simp
      try with_reducible rfl
    try simp only [Act.put, List.setIfInBounds_toArray, List.set_cons_zero, List.set_cons_succ]
    refine wpAnyH_take (i := 50) (oi := ⟨some 61, _, _, _, _, _⟩) (v := ?_) rfl (by kernel_rfl) (by kernel_rfl) (by kernel_rfl) (fun _ _ _ h => h) (Or.inl ⟨by rfl, ?_⟩) hH16 ?_
    rotate_left
    · intro w hSw
      try dsimp only at hSw
      go_simp
      try with_reducible rfl
    try simp only [Act.put, List.setIfInBounds_toArray, List.set_cons_zero, List.set_cons_succ]
    refine wpAnyH_take (i := 51) (oi := ⟨some 62, _, _, _, _, _⟩) (v := ?_) rfl (by kernel_rfl) (by kernel_rfl) (by kernel_rfl) (fun _ _ _ h => h) (Or.inl ⟨by rfl, ?_⟩) hH16 ?_
    rotate_left
    · intro w hSw
      try dsimp only at hSw
      go_simp
      try with_reducible rfl
    try simp only [Act.put, List.setIfInBounds_toArray, List.set_cons_zero, List.set_cons_succ]
    refine wpAnyH_take (i := 53) (oi := ⟨some 64, _, _, _, _, _⟩) (v := ?_) rfl (by kernel_rfl) (by kernel_rfl) (by kernel_rfl) (fun _ _ _ h => h) (Or.inl ⟨by rfl, ?_⟩) hH16 ?_
    rotate_left
    · intro w hSw
      try dsimp only at hSw
      go_simp
      try with_reducible rfl
    try simp only [Act.put, List.setIfInBounds_toArray, List.set_cons_zero, List.set_cons_succ]
    refine wpAnyH_take (i := 54) (oi := ⟨some 65, _, _, _, _, _⟩) (v := ?_) rfl (by kernel_rfl) (by kernel_rfl) (by kernel_rfl) (fun _ _ _ h => h) (Or.inl ⟨by rfl, ?_⟩) hH16 ?_
    rotate_left
    · intro w hSw
      try dsimp only at hSw
      go_simp
      try with_reducible rfl
    try simp only [Act.put, List.setIfInBounds_toArray, List.set_cons_zero, List.set_cons_succ]
    refine wpAnyH_ready (rs := [52]) (by kernel_rfl) (by simp) ?_
    refine AllReadyH.cons (o := ⟨some 63, _, _, _, _, _⟩) rfl (fun K hK => ?_) AllReadyH.nil
    go_simp
    refine (HBot.out _).mono ?_
    rintro e w17 ⟨A17, c17, rfl, hz17, hb17⟩
    have M17 := Lib.hid (M16.out.below hb17); have Z17 := Lib.hid hz17; clear hb17 hz17
    go_wp2_with fail
    refine hK.out _ _ (M17.out.s) (fun hH17 => ?_)
    clear hK K hH16
    try simp only [Act.put, List.setIfInBounds_toArray, List.set_cons_zero, List.set_cons_succ]
    refine wpAnyH_ready (rs := [55]) (by kernel_rfl) (by simp) ?_
    refine AllReadyH.cons (o := ⟨some 66, _, _, _, _, _⟩) rfl (fun K hK => ?_) AllReadyH.nil
    go_simp
    refine (HRBot.out _).mono ?_
    rintro e w18 ⟨A18, c18, rfl, hz18, hb18⟩
    have M18 := Lib.hid (M17.out.below hb18); have Z18 := Lib.hid hz18; have Z17' := Lib.hid (Z17.out.below hb18); clear hb18 hz18
    go_wp2_with fail
    refine hK.out _ _ (M18.out.s) (fun hH18 => ?_)
    clear hK K hH17
    try simp only [Act.put, List.setIfInBounds_toArray, List.set_cons_zero, List.set_cons_succ]
    refine wpAnyH_ready (rs := [56]) (by kernel_rfl) (by simp) ?_
    refine AllReadyH.cons (o := ⟨some 67, _, _, _, _, _⟩) rfl (fun K hK => ?_) AllReadyH.nil
    go_simp
    refine (HSmB.out _ _ _ _ _ _ _ Z17'.out Z18.out).mono ?_
    rintro e w19 ⟨rfl, hb19⟩
    have M19 := Lib.hid (M18.out.below hb19); clear hb19
    go_wp2_with fail
    refine hK.out _ _ (M19.out.s) (fun hH19 => ?_)
    clear hK K hH18
    try simp only [Act.put, List.setIfInBounds_toArray, List.set_cons_zero, List.set_cons_succ]
    refine wpAnyH_take (i := 57) (oi := ⟨some 68, _, _, _, _, _⟩) (v := ?_) rfl (by kernel_rfl) (by kernel_rfl) (by kernel_rfl) (fun _ _ _ h => h) (Or.inl ⟨by rfl, ?_⟩) hH19 ?_
    rotate_left
    · intro w hSw
      try dsimp only at hSw
      go_simp
      try with_reducible rfl
    try simp only [Act.put, List.setIfInBounds_toArray, List.set_cons_zero, List.set_cons_succ]
    refine wpAnyH_take (i := 58) (oi := ⟨some 2, _, _, _, _, _⟩) (v := ?_) rfl (by kernel_rfl) (by kernel_rfl) (by kernel_rfl) (fun _ _ _ h => h) (Or.inl ⟨by rfl, ?_⟩) hH19 ?_
    rotate_left
    · intro w hSw
      try dsimp only at hSw
      go_simp
      try with_reducible rfl
    try simp only [Act.put, List.setIfInBounds_toArray, List.set_cons_zero, List.set_cons_succ]
    refine wpAnyH_done (by kernel_rfl) ?_ _
    go_wp2_with fail
    go_ret
    exact ⟨rfl, M19.out.low⟩
theorem zone_closes_walk (x0 : Int) (A0 : Option Addr) (m0 c0 : Nat) (f0 : Nat → Int) (W : World) (ht : Tabs W) (_ : m0 ≤ 9223372036854775807) (mc : m0 ≤ c0) (hI : ZInts W A0 m0 f0) :
    Calls Tryd.prog 3 #[zoneV x0 A0 m0 c0] W (RetB W true) := by
  by_cases hf : m0 ≤ 100
  · exact closes_in hf ht ⟨A0, c0, rfl, mc, hf, hI⟩
  · have hd : decide (m0 ≤ 100) = false := decide_eq_false hf
    have HFew : Hid (∀ W, Calls Tryd.prog 9 #[zoneV x0 A0 m0 c0] W (RetB W false)) := Lib.hid fun W => by
      have q := few_any W x0 A0 m0 c0
      rw [hd] at q
      exact q
    have HB := Lib.hid (zboxed W (.cells #[.int .i64 x0, .slice A0 m0 c0] 24))
    have HD := Lib.hid (Duo.new W 24 (.int .i64 x0) (.slice A0 m0 c0))
    have k0 := HD.out.cell0
    have k1 := HD.out.cell1
    clear ht hd hf
    go_enter Tryd.func3, Tryd.ntmps3
    go_wp2_with (first
      | (go_at_call 9; ((with_reducible refine (HFew.out _).mono ?_); rintro e v1 ⟨rfl, hb1⟩); have B1 := Lib.hid (HB.out.trans (hb1.mono HB.out.size)); clear hb1)
      | (go_at_call 10; ((with_reducible refine (alive_any _).mono ?_); rintro e v2 ⟨rfl, hb2⟩); have B2 := Lib.hid (B1.out.trans (hb2.mono B1.out.size)); clear hb2))
    go_ret
    exact ⟨rfl, B2.out⟩
end Go.Proofs.YtimckaphmfidhaaDoor
