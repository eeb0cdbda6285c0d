/- ZoneCopied: where all that it asks is so. -/
import Derived.Test.YtcbkffpmclainaaDoorMovesBase
import Derived.BigRegion
import Derived.BigQuiet
import Derived.Deep.LoopGhost
namespace Go.Proofs.YtcbkffpmclainaaDoor
open Go.RowKit
attribute [local go_sem ↓] Go.wp_at_zero Go.wp_at_succ

theorem has_is {W : World} {m base c n cp b off : Nat} {A : Option Addr} {f : Nat → Int} {R : Option Mat} {r : Bool} (h0 : 0 < m) (h7 : m ≤ 7) (hz : ZRes W base m R (zoneV ((m : Int) - 1) A (rlen m R) c)) (hp : PtAt W b off n f) (he : hasO m n f R = r) :
    Calls Tryd.prog 31 #[zoneV ((m : Int) - 1) A (rlen m R) c, .slice (some ⟨b, off, none⟩) n cp] W (RetB W r) := by
  subst he
  exact has_res h0 h7 hz hp
section
variable {m n t u : Nat} {R : Option Mat} {f : Nat → Int} {c : Int}
theorem inB_of {x : Int} (h : -1152921504606846976 ≤ x ∧ x ≤ 1152921504606846976) : inB x = true := inB_yes h.1 h.2
theorem has_in {k : Nat} (h : hasO m n f R = true) (hk : k < n) : inB (f k) = true := by
  obtain ⟨D, -, hn, hp⟩ := hasO_iff.1 h
  rw [vof_succ f k]
  exact inB_of (hp.whole (k + 1) (by omega))
theorem has_off {k : Nat} (h : inB (f k) = false) (hk : k < n) : hasO m n f R = false := by
  cases e : hasO m n f R
  · rfl
  · rw [has_in e hk] at h
    cases h
theorem cp_same (hD : ∀ D, R = some D → Closed m D) (hn : n + 1 = m) (ht : t < n) (hc : -2305843009213693952 ≤ c ∧ c ≤ 2305843009213693952) (hi : inB (f t) = true) : hasO m n f (cpyO m R ((t + 1 : Nat) : Int) ((t + 1 : Nat) : Int) c) = hasO m n (putF f t (f t - c)) R := by
  cases R with
  | none => rfl
  | some D =>
    have hb := inB_bd hi
    rw [vof_succ f t] at hb ⊢
    rw [cp_named (by omega) (by omega) (by omega) hc, if_pos rfl]
    refine bool_iff ?_
    rw [hasO_set, hasO_iff, vof_put, pt_shf (hD D rfl) (by omega) (by omega)]
    exact ⟨fun h => ⟨D, rfl, h.1, h.2.1⟩, fun ⟨E, e, h1, h2⟩ => ⟨h1, by injection e with e; subst e; exact h2, hb⟩⟩
theorem cp_two (hD : ∀ D, R = some D → Closed m D) (hn : n + 1 = m) (ht : t < n) (hu : u < n) (htu : t ≠ u) (hc : -2305843009213693952 ≤ c ∧ c ≤ 2305843009213693952) : hasO m n f (cpyO m R ((t + 1 : Nat) : Int) ((u + 1 : Nat) : Int) c) = (decide (f t = f u + c) && hasO m n f (fgO m R ((t + 1 : Nat) : Int))) := by
  cases R with
  | none => exact (Bool.and_false _).symm
  | some D =>
    rw [cp_named (by omega) (by omega) (by omega) hc, if_neg (by omega), fg_named (by omega), vof_succ f t, vof_succ f u]
    refine bool_iff ?_
    rw [Bool.and_eq_true, hasO_set, hasO_set, decide_eq_true_eq]
    unfold cpyM
    rw [pt_grd (by omega) (by omega), pt_grd (by omega) (by omega)]
    constructor
    · rintro ⟨h1, ⟨h2, h3⟩, h4⟩
      exact ⟨by omega, h1, pt_of_lev h2⟩
    · rintro ⟨h1, h2, h3⟩
      exact ⟨h2, ⟨(alive_pt h3).2, by omega⟩, by omega⟩
end

set_option maxRecDepth 100000 in
set_option maxHeartbeats 12800000 in
theorem copied_same {w : World} {N : Int} {A : Option Addr} {ml cap n cp b off I J t u : Nat} {fz f : Nat → Int} {C L H : Int} (hz : ZArg w (zoneV N A ml cap) N ml fz) (h : ml ≤ 100) (hn : n + 1 = zm N) (hI : I = t + 1) (hJ : J = u + 1) (ht : t < n) (hu : u < n) (hC : -2305843009213693952 ≤ C ∧ C ≤ 2305843009213693952) (hp : PtAt w b off n f) (hij : t = u) :
    Calls Tryd.prog 7 #[zoneV N A ml cap, .slice (some ⟨b, off, none⟩) n cp, .agg #[.int .i64 (I : Int), .int .i64 (J : Int), .int .i64 C, .int .i64 L, .int .i64 H]] w (RetB w true) := by
  obtain ⟨h0, h7⟩ := zm_bd N
  have HT := Lib.hid (mv_new w N A ml cap (I : Int) (J : Int) C L H)
  have HP := Lib.hid (fun (W : World) (hb : Below w.heap.size w W) => hp.below hb)
  have hD : ∀ D, zr N ml fz = some D → Closed (zm N) D := fun D e => zr_closed e
  have HClo : Hid (∀ W, Below w.heap.size w W → Calls Tryd.prog 11 #[zoneV N A ml cap] W (RetC W (zm N) (zr N ml fz))) := Lib.hid fun W hb => close_z (hz.below hb)
  have HCl : Hid (∀ W, Below w.heap.size w W → Calls Tryd.prog 19 #[zoneV N A ml cap] W (RetC W (zm N) (zr N ml fz))) := Lib.hid fun W hb => rclean_z (hz.below hb)
  have HE := Lib.hid (decide_eq_true h)
  obtain ⟨m, hm⟩ : ∃ m, zm N = m := ⟨_, rfl⟩
  obtain ⟨R, hR⟩ : ∃ R, zr N ml fz = R := ⟨_, rfl⟩
  rw [hm] at h0 h7 hD HClo HCl hn
  rw [hR] at hD HClo HCl
  clear hm hz h hR
  have H0 := Lib.hid h0
  have H7 := Lib.hid h7
  have HCp : Hid (∀ W, Below w.heap.size w W → Calls Tryd.prog 37 #[zoneV N A ml cap, .int .i64 (I : Int), .int .i64 (J : Int), .int .i64 C] W (RetC W m (cpyO m R (I : Int) (J : Int) C))) := Lib.hid fun W hb => copy_any h0 h7 (fun W1 hb1 => HClo.out W1 (hb.trans (hb1.mono hb.size)))
  have HPu : Hid (∀ x W, Below w.heap.size w W → Calls Tryd.prog 36 #[.slice (some ⟨b, off, none⟩) n cp, .int .i64 (I : Int), .int .i64 x] W (RetRow W n (putF f t x))) := Lib.hid fun x W hb => by
    rw [hI]
    exact put_any (by omega) ht (hp.below hb)
  have HCs := Lib.hid (fun hi => cp_same (f := f) hD hn ht hC hi)
  have HCo := Lib.hid (fun (k : Nat) (hk : k < n) (hi : inB (f k) = false) => has_off (m := m) (R := cpyO m R ((t + 1 : Nat) : Int) ((t + 1 : Nat) : Int) C) hi hk)
  rw [← hI] at HCs HCo
  have e : J = I := by omega
  rw [e] at HCp HT ⊢
  have HH : Hid (∀ (W : World) (g c : Nat) (fx : Nat → Int), Below w.heap.size w W → PtAt W g 0 n fx → Calls Tryd.prog 31 #[zoneV N A ml cap, .slice (some ⟨g, 0, none⟩) n c] W (RetB W (hasO m n fx R))) := Lib.hid fun W g c fx hb hp => has_any h0 h7 hp.1 hp.2 (fun W1 hb1 => HClo.out W1 (hb.trans (hb1.mono hb.size)))
  have HPx := Lib.hid (hp.2 t ht)
  have HPl := Lib.hid hp.1
  obtain ⟨RC, hRC⟩ : ∃ R', cpyO m R (I : Int) (I : Int) C = R' := ⟨_, rfl⟩
  rw [hRC] at HCp HCs HCo
  obtain ⟨x0, hx0⟩ : ∃ x, f t = x := ⟨_, rfl⟩
  have HCo' := Lib.hid (HCo.out t ht)
  rw [hx0] at HCs HPx HCo'
  have d0 : decide ((6 : Int) < (n : Int)) = false := decide_eq_false (by omega)
  have D0 : decide (6 < n) = false := decide_eq_false (by omega)
  have d1 : ((n : Int) == (m : Int) - 1) = true := by simp; omega
  have D1 : decide ((n : Int) = (m : Int) - 1) = true := decide_eq_true (by omega)
  have E1 : ((n : Int) != (m : Int) - 1) = false := by simp; omega
  have d2 : decide ((I : Int) < 1) = false := decide_eq_false (by omega)
  have d3 : decide ((n : Int) < (I : Int)) = false := decide_eq_false (by omega)
  have d4 : decide ((I : Int) < 1) = false := decide_eq_false (by omega)
  have d5 : decide ((n : Int) < (I : Int)) = false := decide_eq_false (by omega)
  have d6 : decide (C < -2305843009213693952) = false := decide_eq_false (by omega)
  have d7 : decide (2305843009213693952 < C) = false := decide_eq_false (by omega)
  have D2 : decide (I < 1) = false := decide_eq_false (by omega)
  have D4 : decide (I < 1) = false := decide_eq_false (by omega)
  have D3 : decide (n < I) = false := decide_eq_false (by omega)
  have D5 : decide (n < I) = false := decide_eq_false (by omega)
  have v3 : IntKind.i64.wrap ((I : Int) - 1) = (t : Int) := by rw [show (I : Int) - 1 = (t : Int) by omega]; exact IntWalk.i64_in _ (by omega)
  have v4 : IntKind.i64.wrap ((I : Int) - 1) = (u : Int) := by rw [show (I : Int) - 1 = (u : Int) by omega]; exact IntWalk.i64_in _ (by omega)
  have i7 : (t : Int) < (n : Int) := by omega
  have i8 : (u : Int) < (n : Int) := by omega
  have fz := field_n
  have hcb := hC
  clear hp hn hI hJ ht hu hC h0 h7 HClo hD hij e hRC hx0 HCo
  cases hin : inB x0
  · have HIn : Hid (∀ W, Calls Tryd.prog 34 #[.int .i64 x0] W (RetB W false)) := Lib.hid fun W => (in_any x0 W).mono fun e W1 h => ⟨by rw [h.1, hin], by rw [← h.2]; exact Below.refl _ _⟩
    have HCh := Lib.hid (HCo'.out hin)
    clear hcb
    go_enter Tryd.func7, Tryd.ntmps7
    go_wp2_with (first
      | (go_at_call 9; ((with_reducible refine (few_any _ _ A ml cap).mono ?_); rw [HE.out]; rintro e w1 ⟨rfl, hb1⟩); have M1 := Lib.hid (HT.out.below hb1); obtain ⟨⟨a0, a1⟩, a2, a3, a4, a5, a6⟩ := M1.out.s; obtain ⟨a7, a8⟩ := M1.out.sz; have B1 := Lib.hid M1.out.low; clear hb1)
      | (go_at_call 19; ((with_reducible refine (HCl.out _ B1.out).mono ?_); rintro e w2 ⟨A2, c2, rfl, hz2, hb2⟩); have M2 := Lib.hid (M1.out.below hb2); obtain ⟨⟨b0, b1⟩, b2, b3, b4, b5, b6⟩ := M2.out.s; obtain ⟨b7, b8⟩ := M2.out.sz; have B2 := Lib.hid M2.out.low; clear hb2 hz2 a0 a1 a2 a3 a4 a5 a6 a7 a8))
    have M2d := Lib.hid (M2.out.below (Below.refl _ _).drew)
    clear b0 b1 b2 b3 b4 b5 b6 b7 b8
    refine wp_region_held_drew (S := fun w' => (w'.cell? ⟨w.heap.size, 0, none⟩ = some (.int .i64 N) ∧ w'.cell? ⟨w.heap.size, 1, none⟩ = some (.slice A ml cap)) ∧ w'.cell? ⟨w.heap.size + 1, 0, none⟩ = some (.int .i64 (I : Int)) ∧ w'.cell? ⟨w.heap.size + 1, 1, none⟩ = some (.int .i64 (I : Int)) ∧ w'.cell? ⟨w.heap.size + 1, 2, none⟩ = some (.int .i64 C) ∧ w'.cell? ⟨w.heap.size + 1, 3, none⟩ = some (.int .i64 L) ∧ w'.cell? ⟨w.heap.size + 1, 4, none⟩ = some (.int .i64 H)) (by kernel_rfl) (M2d.out.s) (fun hH0 => ?_)
    refine wpAnyH_take (i := 0) (oi := ⟨some 62, _, _, _, _, _⟩) (v := ?_) rfl (by kernel_rfl) (by kernel_rfl) (by kernel_rfl) (fun _ _ _ h => h) (Or.inl ⟨by rfl, ?_⟩) hH0 ?_
    rotate_left
    · intro w hSw
      try dsimp only at hSw
      go_simp
      try with_reducible rfl
    try simp only [Act.put, List.setIfInBounds_toArray, List.set_cons_zero, List.set_cons_succ]
    refine wpAnyH_take (i := 2) (oi := ⟨some 64, _, _, _, _, _⟩) (v := ?_) rfl (by kernel_rfl) (by kernel_rfl) (by kernel_rfl) (fun _ _ _ h => h) (Or.inl ⟨by rfl, ?_⟩) hH0 ?_
    rotate_left
    · intro w hSw
      try dsimp only at hSw
      go_simp
      try with_reducible rfl
    try simp only [Act.put, List.setIfInBounds_toArray, List.set_cons_zero, List.set_cons_succ]
    refine wpAnyH_take (i := 3) (oi := ⟨some 65, _, _, _, _, _⟩) (v := ?_) rfl (by kernel_rfl) (by kernel_rfl) (by kernel_rfl) (fun _ _ _ h => h) (Or.inl ⟨by rfl, ?_⟩) hH0 ?_
    rotate_left
    · intro w hSw
      try dsimp only at hSw
      go_simp
      try with_reducible rfl
    try simp only [Act.put, List.setIfInBounds_toArray, List.set_cons_zero, List.set_cons_succ]
    refine wpAnyH_take (i := 4) (oi := ⟨some 66, _, _, _, _, _⟩) (v := ?_) rfl (by kernel_rfl) (by kernel_rfl) (by kernel_rfl) (fun _ _ _ h => h) (Or.inl ⟨by rfl, ?_⟩) hH0 ?_
    rotate_left
    · intro w hSw
      try dsimp only at hSw
      go_simp
      try with_reducible rfl
    try simp only [Act.put, List.setIfInBounds_toArray, List.set_cons_zero, List.set_cons_succ]
    refine wpAnyH_take (i := 5) (oi := ⟨some 67, _, _, _, _, _⟩) (v := ?_) rfl (by kernel_rfl) (by kernel_rfl) (by kernel_rfl) (fun _ _ _ h => h) (Or.inl ⟨by rfl, ?_⟩) hH0 ?_
    rotate_left
    · intro w hSw
      try dsimp only at hSw
      go_simp
      try with_reducible rfl
    try simp only [Act.put, List.setIfInBounds_toArray, List.set_cons_zero, List.set_cons_succ]
    refine wpAnyH_take (i := 6) (oi := ⟨some 68, _, _, _, _, _⟩) (v := ?_) rfl (by kernel_rfl) (by kernel_rfl) (by kernel_rfl) (fun _ _ _ h => h) (Or.inl ⟨by rfl, ?_⟩) hH0 ?_
    rotate_left
    · intro w hSw
      try dsimp only at hSw
      go_simp
      try with_reducible rfl
    try simp only [Act.put, List.setIfInBounds_toArray, List.set_cons_zero, List.set_cons_succ]
    refine wpAnyH_take (i := 7) (oi := ⟨some 69, _, _, _, _, _⟩) (v := ?_) rfl (by kernel_rfl) (by kernel_rfl) (by kernel_rfl) (fun _ _ _ h => h) (Or.inl ⟨by rfl, ?_⟩) hH0 ?_
    rotate_left
    · intro w hSw
      try dsimp only at hSw
      go_simp
      try with_reducible rfl
    try simp only [Act.put, List.setIfInBounds_toArray, List.set_cons_zero, List.set_cons_succ]
    refine wpAnyH_take (i := 9) (oi := ⟨some 71, _, _, _, _, _⟩) (v := ?_) rfl (by kernel_rfl) (by kernel_rfl) (by kernel_rfl) (fun _ _ _ h => h) (Or.inl ⟨by rfl, ?_⟩) hH0 ?_
    rotate_left
    · intro w hSw
      try dsimp only at hSw
      go_simp
      try with_reducible rfl
    try simp only [Act.put, List.setIfInBounds_toArray, List.set_cons_zero, List.set_cons_succ]
    refine wpAnyH_ready (rs := [1]) (by kernel_rfl) (by simp) ?_
    refine AllReadyH.cons (o := ⟨some 63, _, _, _, _, _⟩) rfl (fun K hK => ?_) AllReadyH.nil
    go_simp
    refine (of_zone _ N A ml cap).mono ?_
    rintro e w5 ⟨rfl, hb5⟩
    have M5 := Lib.hid (M2d.out.below hb5); clear hb5
    go_wp2_with fail
    refine hK.out _ _ (M5.out.s) (fun hH1 => ?_)
    clear hK K hH0
    try simp only [Act.put, List.setIfInBounds_toArray, List.set_cons_zero, List.set_cons_succ]
    refine wpAnyH_ready (rs := [8]) (by kernel_rfl) (by simp) ?_
    refine AllReadyH.cons (o := ⟨some 70, _, _, _, _, _⟩) rfl (fun K hK => ?_) AllReadyH.nil
    go_simp
    refine (HCp.out _ M5.out.low).mono ?_
    rintro e w6 ⟨A6, c6, rfl, hz6, hb6⟩
    have M6 := Lib.hid (M5.out.below hb6); have Z6 := Lib.hid hz6; clear hb6 hz6
    go_wp2_with fail
    refine hK.out _ _ (M6.out.s) (fun hH2 => ?_)
    clear hK K hH1
    try simp only [Act.put, List.setIfInBounds_toArray, List.set_cons_zero, List.set_cons_succ]
    refine wpAnyH_ready (rs := [10]) (by kernel_rfl) (by simp) ?_
    refine AllReadyH.cons (o := ⟨some 72, _, _, _, _, _⟩) rfl (fun K hK => ?_) AllReadyH.nil
    go_simp
    refine (has_is H0.out H7.out Z6.out (HP.out _ M6.out.low) HCh.out).mono ?_
    rintro e w7 ⟨rfl, hb7⟩
    have M7 := Lib.hid (M6.out.below hb7); clear hb7
    go_wp2_with fail
    refine hK.out _ _ (M7.out.s) (fun hH3 => ?_)
    clear hK K hH2
    try simp only [Act.put, List.setIfInBounds_toArray, List.set_cons_zero, List.set_cons_succ]
    refine wpAnyH_take (i := 11) (oi := ⟨some 7, _, _, _, _, _⟩) (v := ?_) rfl (by kernel_rfl) (by kernel_rfl) (by kernel_rfl) (fun _ _ _ h => h) (Or.inl ⟨by rfl, ?_⟩) hH3 ?_
    rotate_left
    · intro w hSw
      try dsimp only at hSw
      go_simp
      try with_reducible rfl
    try simp only [Act.put, List.setIfInBounds_toArray, List.set_cons_zero, List.set_cons_succ]
    refine wpAnyH_done (by kernel_rfl) ?_ _
    obtain ⟨⟨k0, k1⟩, k2, k3, k4, k5, k6⟩ := M7.out.s
    obtain ⟨k7, k8⟩ := M7.out.sz
    have p0 := (M7.out.low.cell (p := ⟨b, off + t, none⟩) HPl.out).trans HPx.out
    have p1 := Nat.lt_of_lt_of_le HPl.out M7.out.low.size
    go_wp2_with (first
      | (go_at_call 34; ((with_reducible refine (HIn.out _).mono ?_); rintro e w8 ⟨rfl, hb8⟩); have M8 := Lib.hid (M7.out.below hb8); clear hb8)
      | (go_at_call 10; ((with_reducible refine (alive_any _).mono ?_); rintro e w9 ⟨rfl, hb9⟩); have M9 := Lib.hid (M8.out.below hb9); clear hb9))
    go_ret
    exact ⟨rfl, M9.out.low⟩
  · have HIn : Hid (∀ W, Calls Tryd.prog 34 #[.int .i64 x0] W (RetB W true)) := Lib.hid fun W => (in_any x0 W).mono fun e W1 h => ⟨by rw [h.1, hin], by rw [← h.2]; exact Below.refl _ _⟩
    have HCh := Lib.hid (HCs.out hin)
    have hxb := inB_bd hin
    have v5 : IntKind.i64.wrap (x0 - C) = x0 - C := IntWalk.i64_in _ (by omega)
    obtain ⟨y, hy⟩ : ∃ y, x0 - C = y := ⟨_, rfl⟩
    have v6 : IntKind.i64.wrap (x0 - C) = y := by rw [v5]; exact hy
    rw [hy] at HCh
    clear v5 hy
    obtain ⟨bl, hbl⟩ : ∃ r, hasO m n (putF f t y) R = r := ⟨_, rfl⟩
    have HHb : Hid (∀ (W : World) (g c : Nat), Below w.heap.size w W → PtAt W g 0 n (putF f t y) → Calls Tryd.prog 31 #[zoneV N A ml cap, .slice (some ⟨g, 0, none⟩) n c] W (RetB W bl)) := Lib.hid fun W g c hb hp => by
      have := HH.out W g c _ hb hp
      rw [hbl] at this
      exact this
    rw [hbl] at HCh
    clear hbl hcb hxb
    go_enter Tryd.func7, Tryd.ntmps7
    go_wp2_with (first
      | (go_at_call 9; ((with_reducible refine (few_any _ _ A ml cap).mono ?_); rw [HE.out]; rintro e w1 ⟨rfl, hb1⟩); have M1 := Lib.hid (HT.out.below hb1); obtain ⟨⟨a0, a1⟩, a2, a3, a4, a5, a6⟩ := M1.out.s; obtain ⟨a7, a8⟩ := M1.out.sz; have B1 := Lib.hid M1.out.low; clear hb1)
      | (go_at_call 19; ((with_reducible refine (HCl.out _ B1.out).mono ?_); rintro e w2 ⟨A2, c2, rfl, hz2, hb2⟩); have M2 := Lib.hid (M1.out.below hb2); obtain ⟨⟨b0, b1⟩, b2, b3, b4, b5, b6⟩ := M2.out.s; obtain ⟨b7, b8⟩ := M2.out.sz; have B2 := Lib.hid M2.out.low; clear hb2 hz2 a0 a1 a2 a3 a4 a5 a6 a7 a8))
    have M2d := Lib.hid (M2.out.below (Below.refl _ _).drew)
    clear b0 b1 b2 b3 b4 b5 b6 b7 b8
    refine wp_region_held_drew (S := fun w' => (w'.cell? ⟨w.heap.size, 0, none⟩ = some (.int .i64 N) ∧ w'.cell? ⟨w.heap.size, 1, none⟩ = some (.slice A ml cap)) ∧ w'.cell? ⟨w.heap.size + 1, 0, none⟩ = some (.int .i64 (I : Int)) ∧ w'.cell? ⟨w.heap.size + 1, 1, none⟩ = some (.int .i64 (I : Int)) ∧ w'.cell? ⟨w.heap.size + 1, 2, none⟩ = some (.int .i64 C) ∧ w'.cell? ⟨w.heap.size + 1, 3, none⟩ = some (.int .i64 L) ∧ w'.cell? ⟨w.heap.size + 1, 4, none⟩ = some (.int .i64 H)) (by kernel_rfl) (M2d.out.s) (fun hH0 => ?_)
    refine wpAnyH_take (i := 0) (oi := ⟨some 62, _, _, _, _, _⟩) (v := ?_) rfl (by kernel_rfl) (by kernel_rfl) (by kernel_rfl) (fun _ _ _ h => h) (Or.inl ⟨by rfl, ?_⟩) hH0 ?_
    rotate_left
    · intro w hSw
      try dsimp only at hSw
      go_simp
      try with_reducible rfl
    try simp only [Act.put, List.setIfInBounds_toArray, List.set_cons_zero, List.set_cons_succ]
    refine wpAnyH_take (i := 2) (oi := ⟨some 64, _, _, _, _, _⟩) (v := ?_) rfl (by kernel_rfl) (by kernel_rfl) (by kernel_rfl) (fun _ _ _ h => h) (Or.inl ⟨by rfl, ?_⟩) hH0 ?_
    rotate_left
    · intro w hSw
      try dsimp only at hSw
      go_simp
      try with_reducible rfl
    try simp only [Act.put, List.setIfInBounds_toArray, List.set_cons_zero, List.set_cons_succ]
    refine wpAnyH_take (i := 3) (oi := ⟨some 65, _, _, _, _, _⟩) (v := ?_) rfl (by kernel_rfl) (by kernel_rfl) (by kernel_rfl) (fun _ _ _ h => h) (Or.inl ⟨by rfl, ?_⟩) hH0 ?_
    rotate_left
    · intro w hSw
      try dsimp only at hSw
      go_simp
      try with_reducible rfl
    try simp only [Act.put, List.setIfInBounds_toArray, List.set_cons_zero, List.set_cons_succ]
    refine wpAnyH_take (i := 4) (oi := ⟨some 66, _, _, _, _, _⟩) (v := ?_) rfl (by kernel_rfl) (by kernel_rfl) (by kernel_rfl) (fun _ _ _ h => h) (Or.inl ⟨by rfl, ?_⟩) hH0 ?_
    rotate_left
    · intro w hSw
      try dsimp only at hSw
      go_simp
      try with_reducible rfl
    try simp only [Act.put, List.setIfInBounds_toArray, List.set_cons_zero, List.set_cons_succ]
    refine wpAnyH_take (i := 5) (oi := ⟨some 67, _, _, _, _, _⟩) (v := ?_) rfl (by kernel_rfl) (by kernel_rfl) (by kernel_rfl) (fun _ _ _ h => h) (Or.inl ⟨by rfl, ?_⟩) hH0 ?_
    rotate_left
    · intro w hSw
      try dsimp only at hSw
      go_simp
      try with_reducible rfl
    try simp only [Act.put, List.setIfInBounds_toArray, List.set_cons_zero, List.set_cons_succ]
    refine wpAnyH_take (i := 6) (oi := ⟨some 68, _, _, _, _, _⟩) (v := ?_) rfl (by kernel_rfl) (by kernel_rfl) (by kernel_rfl) (fun _ _ _ h => h) (Or.inl ⟨by rfl, ?_⟩) hH0 ?_
    rotate_left
    · intro w hSw
      try dsimp only at hSw
      go_simp
      try with_reducible rfl
    try simp only [Act.put, List.setIfInBounds_toArray, List.set_cons_zero, List.set_cons_succ]
    refine wpAnyH_take (i := 7) (oi := ⟨some 69, _, _, _, _, _⟩) (v := ?_) rfl (by kernel_rfl) (by kernel_rfl) (by kernel_rfl) (fun _ _ _ h => h) (Or.inl ⟨by rfl, ?_⟩) hH0 ?_
    rotate_left
    · intro w hSw
      try dsimp only at hSw
      go_simp
      try with_reducible rfl
    try simp only [Act.put, List.setIfInBounds_toArray, List.set_cons_zero, List.set_cons_succ]
    refine wpAnyH_take (i := 9) (oi := ⟨some 71, _, _, _, _, _⟩) (v := ?_) rfl (by kernel_rfl) (by kernel_rfl) (by kernel_rfl) (fun _ _ _ h => h) (Or.inl ⟨by rfl, ?_⟩) hH0 ?_
    rotate_left
    · intro w hSw
      try dsimp only at hSw
      go_simp
      try with_reducible rfl
    try simp only [Act.put, List.setIfInBounds_toArray, List.set_cons_zero, List.set_cons_succ]
    refine wpAnyH_ready (rs := [1]) (by kernel_rfl) (by simp) ?_
    refine AllReadyH.cons (o := ⟨some 63, _, _, _, _, _⟩) rfl (fun K hK => ?_) AllReadyH.nil
    go_simp
    refine (of_zone _ N A ml cap).mono ?_
    rintro e w5 ⟨rfl, hb5⟩
    have M5 := Lib.hid (M2d.out.below hb5); clear hb5
    go_wp2_with fail
    refine hK.out _ _ (M5.out.s) (fun hH1 => ?_)
    clear hK K hH0
    try simp only [Act.put, List.setIfInBounds_toArray, List.set_cons_zero, List.set_cons_succ]
    refine wpAnyH_ready (rs := [8]) (by kernel_rfl) (by simp) ?_
    refine AllReadyH.cons (o := ⟨some 70, _, _, _, _, _⟩) rfl (fun K hK => ?_) AllReadyH.nil
    go_simp
    refine (HCp.out _ M5.out.low).mono ?_
    rintro e w6 ⟨A6, c6, rfl, hz6, hb6⟩
    have M6 := Lib.hid (M5.out.below hb6); have Z6 := Lib.hid hz6; clear hb6 hz6
    go_wp2_with fail
    refine hK.out _ _ (M6.out.s) (fun hH2 => ?_)
    clear hK K hH1
    try simp only [Act.put, List.setIfInBounds_toArray, List.set_cons_zero, List.set_cons_succ]
    refine wpAnyH_ready (rs := [10]) (by kernel_rfl) (by simp) ?_
    refine AllReadyH.cons (o := ⟨some 72, _, _, _, _, _⟩) rfl (fun K hK => ?_) AllReadyH.nil
    go_simp
    refine (has_is H0.out H7.out Z6.out (HP.out _ M6.out.low) HCh.out).mono ?_
    rintro e w7 ⟨rfl, hb7⟩
    have M7 := Lib.hid (M6.out.below hb7); clear hb7
    go_wp2_with fail
    refine hK.out _ _ (M7.out.s) (fun hH3 => ?_)
    clear hK K hH2
    try simp only [Act.put, List.setIfInBounds_toArray, List.set_cons_zero, List.set_cons_succ]
    refine wpAnyH_take (i := 11) (oi := ⟨some 7, _, _, _, _, _⟩) (v := ?_) rfl (by kernel_rfl) (by kernel_rfl) (by kernel_rfl) (fun _ _ _ h => h) (Or.inl ⟨by rfl, ?_⟩) hH3 ?_
    rotate_left
    · intro w hSw
      try dsimp only at hSw
      go_simp
      try with_reducible rfl
    try simp only [Act.put, List.setIfInBounds_toArray, List.set_cons_zero, List.set_cons_succ]
    refine wpAnyH_done (by kernel_rfl) ?_ _
    obtain ⟨⟨k0, k1⟩, k2, k3, k4, k5, k6⟩ := M7.out.s
    obtain ⟨k7, k8⟩ := M7.out.sz
    have p0 := (M7.out.low.cell (p := ⟨b, off + t, none⟩) HPl.out).trans HPx.out
    have p1 := Nat.lt_of_lt_of_le HPl.out M7.out.low.size
    go_wp2_with (first
      | (go_at_call 34; ((with_reducible refine (HIn.out _).mono ?_); rintro e w8 ⟨rfl, hb8⟩); have M8 := Lib.hid (M7.out.below hb8); clear hb8))
    have M9d := Lib.hid (M8.out.below (Below.refl _ _).drew)
    clear p0 p1 k0 k1 k2 k3 k4 k5 k6 k7 k8
    refine wp_region_held_drew (S := fun w' => (w'.cell? ⟨w.heap.size, 0, none⟩ = some (.int .i64 N) ∧ w'.cell? ⟨w.heap.size, 1, none⟩ = some (.slice A ml cap)) ∧ w'.cell? ⟨w.heap.size + 1, 0, none⟩ = some (.int .i64 (I : Int)) ∧ w'.cell? ⟨w.heap.size + 1, 1, none⟩ = some (.int .i64 (I : Int)) ∧ w'.cell? ⟨w.heap.size + 1, 2, none⟩ = some (.int .i64 C) ∧ w'.cell? ⟨w.heap.size + 1, 3, none⟩ = some (.int .i64 L) ∧ w'.cell? ⟨w.heap.size + 1, 4, none⟩ = some (.int .i64 H)) (by kernel_rfl) (M9d.out.s) (fun hH0 => ?_)
    refine wpAnyH_ready (rs := [0]) (by kernel_rfl) (by simp) ?_
    refine AllReadyH.cons (o := ⟨some 92, _, _, _, _, _⟩) rfl (fun K hK => ?_) AllReadyH.nil
    go_simp
    refine (alive_any _).mono ?_
    rintro e w10 ⟨rfl, hb10⟩
    have M10 := Lib.hid (M9d.out.below hb10); clear hb10
    go_wp2_with fail
    refine hK.out _ _ (M10.out.s) (fun hH1 => ?_)
    clear hK K hH0
    try simp only [Act.put, List.setIfInBounds_toArray, List.set_cons_zero, List.set_cons_succ]
    refine wpAnyH_take (i := 1) (oi := ⟨some 93, _, _, _, _, _⟩) (v := ?_) rfl (by kernel_rfl) (by kernel_rfl) (by kernel_rfl) (fun _ _ _ h => h) (Or.inl ⟨by rfl, ?_⟩) hH1 ?_
    rotate_left
    · intro w hSw
      try dsimp only at hSw
      go_simp
      try with_reducible rfl
    try simp only [Act.put, List.setIfInBounds_toArray, List.set_cons_zero, List.set_cons_succ]
    refine wpAnyH_take (i := 2) (oi := ⟨some 94, _, _, _, _, _⟩) (v := ?_) rfl (by kernel_rfl) (by kernel_rfl) (by kernel_rfl) (fun _ _ _ h => h) (Or.inl ⟨by rfl, ?_⟩) hH1 ?_
    rotate_left
    · intro w hSw
      try dsimp only at hSw
      go_simp
      try with_reducible rfl
    try simp only [Act.put, List.setIfInBounds_toArray, List.set_cons_zero, List.set_cons_succ]
    refine wpAnyH_take (i := 3) (oi := ⟨some 95, _, _, _, _, _⟩) (v := ?_) rfl (by kernel_rfl) (by kernel_rfl) (by kernel_rfl) (fun _ _ _ h => h) (Or.inl ⟨by rfl, ?_⟩) hH1 ?_
    rotate_left
    · intro w hSw
      try dsimp only at hSw
      go_simp
      try with_reducible rfl
    try simp only [Act.put, List.setIfInBounds_toArray, List.set_cons_zero, List.set_cons_succ]
    refine wpAnyH_take (i := 5) (oi := ⟨some 97, _, _, _, _, _⟩) (v := ?_) rfl (by kernel_rfl) (by kernel_rfl) (by kernel_rfl) (fun _ _ _ h => h) (Or.inl ⟨by rfl, ?_⟩) hH1 ?_
    rotate_left
    · intro w hSw
      try dsimp only at hSw
      go_simp
      try with_reducible rfl
    try simp only [Act.put, List.setIfInBounds_toArray, List.set_cons_zero, List.set_cons_succ]
    refine wpAnyH_take (i := 6) (oi := ⟨some 98, _, _, _, _, _⟩) (v := ?_) rfl (by kernel_rfl) (by kernel_rfl) (by kernel_rfl) (fun _ _ _ h => h) (Or.inl ⟨by rfl, ?_⟩) hH1 ?_
    rotate_left
    · intro w hSw
      try dsimp only at hSw
      go_simp
      try with_reducible rfl
    try simp only [Act.put, List.setIfInBounds_toArray, List.set_cons_zero, List.set_cons_succ]
    refine wpAnyH_take (i := 7) (oi := ⟨some 99, _, _, _, _, _⟩) (v := ?_) rfl (by kernel_rfl) (by kernel_rfl) (by kernel_rfl) (fun _ _ _ h => h) (Or.inl ⟨by rfl, ?_⟩) hH1 ?_
    rotate_left
    · intro w hSw
      try dsimp only at hSw
      go_simp
      try with_reducible rfl
    try simp only [Act.put, List.setIfInBounds_toArray, List.set_cons_zero, List.set_cons_succ]
    refine wpAnyH_take (i := 8) (oi := ⟨some 100, _, _, _, _, _⟩) (v := ?_) rfl (by kernel_rfl) (by kernel_rfl) (by kernel_rfl) (fun _ _ _ h => h) (Or.inl ⟨by rfl, ?_⟩) hH1 ?_
    rotate_left
    · intro w hSw
      try dsimp only at hSw
      go_simp
      try with_reducible rfl
    try simp only [Act.put, List.setIfInBounds_toArray, List.set_cons_zero, List.set_cons_succ]
    refine wpAnyH_take (i := 9) (oi := ⟨some 101, _, _, _, _, _⟩) (v := ?_) rfl (by kernel_rfl) (by kernel_rfl) (by kernel_rfl) (fun _ _ _ h => h) (Or.inl ⟨by rfl, ?_⟩) hH1 ?_
    rotate_left
    · intro w hSw
      try dsimp only at hSw
      go_simp
      try with_reducible rfl
    try simp only [Act.put, List.setIfInBounds_toArray, List.set_cons_zero, List.set_cons_succ]
    refine wpAnyH_take (i := 10) (oi := ⟨some 102, _, _, _, _, _⟩) (v := ?_) rfl (by kernel_rfl) (by kernel_rfl) (by kernel_rfl) (fun _ _ _ h => h) (Or.inl ⟨by rfl, ?_⟩) hH1 ?_
    rotate_left
    · intro w hSw
      try dsimp only at hSw
      go_simp
      try with_reducible rfl
    try simp only [Act.put, List.setIfInBounds_toArray, List.set_cons_zero, List.set_cons_succ]
    refine wpAnyH_take (i := 11) (oi := ⟨some 103, _, _, _, _, _⟩) (v := ?_) rfl (by kernel_rfl) (by kernel_rfl) (by kernel_rfl) (fun _ _ _ h => h) (Or.inl ⟨by rfl, ?_⟩) hH1 ?_
    rotate_left
    · intro w hSw
      try dsimp only at hSw
      go_simp
      try with_reducible rfl
    try simp only [Act.put, List.setIfInBounds_toArray, List.set_cons_zero, List.set_cons_succ]
    refine wpAnyH_ready (rs := [4]) (by kernel_rfl) (by simp) ?_
    refine AllReadyH.cons (o := ⟨some 96, _, _, _, _, _⟩) rfl (fun K hK => ?_) AllReadyH.nil
    go_simp
    refine (of_zone _ N A ml cap).mono ?_
    rintro e w11 ⟨rfl, hb11⟩
    have M11 := Lib.hid (M10.out.below hb11); clear hb11
    go_wp2_with fail
    refine hK.out _ _ (M11.out.s) (fun hH2 => ?_)
    clear hK K hH1
    try simp only [Act.put, List.setIfInBounds_toArray, List.set_cons_zero, List.set_cons_succ]
    refine wpAnyH_ready (rs := [12]) (by kernel_rfl) (by simp) ?_
    refine AllReadyH.cons (o := ⟨some 104, _, _, _, _, _⟩) rfl (fun K hK => ?_) AllReadyH.nil
    go_simp
    refine (HPu.out _ _ M11.out.low).mono ?_
    rintro e w12 ⟨g12, c12, rfl, ho12, hb12⟩
    have M12 := Lib.hid (M11.out.below hb12); have O12 := Lib.hid (ptAt_own ho12); clear hb12 ho12
    go_wp2_with fail
    refine hK.out _ _ (M12.out.s) (fun hH3 => ?_)
    clear hK K hH2
    try simp only [Act.put, List.setIfInBounds_toArray, List.set_cons_zero, List.set_cons_succ]
    refine wpAnyH_ready (rs := [13]) (by kernel_rfl) (by simp) ?_
    refine AllReadyH.cons (o := ⟨some 105, _, _, _, _, _⟩) rfl (fun K hK => ?_) AllReadyH.nil
    go_simp
    refine (HHb.out _ _ _ M12.out.low O12.out).mono ?_
    rintro e w13 ⟨rfl, hb13⟩
    have M13 := Lib.hid (M12.out.below hb13); clear hb13
    go_wp2_with fail
    refine hK.out _ _ (M13.out.s) (fun hH4 => ?_)
    clear hK K hH3
    try simp only [Act.put, List.setIfInBounds_toArray, List.set_cons_zero, List.set_cons_succ]
    refine wpAnyH_take (i := 14) (oi := ⟨some 106, _, _, _, _, _⟩) (v := ?_) rfl (by kernel_rfl) (by kernel_rfl) (by kernel_rfl) (fun _ _ _ h => h) (Or.inl ⟨by rfl, ?_⟩) hH4 ?_
    rotate_left
    · intro w hSw
      try dsimp only at hSw
      go_simp
      try with_reducible rfl
    try simp only [Act.put, List.setIfInBounds_toArray, List.set_cons_zero, List.set_cons_succ]
    refine wpAnyH_take (i := 15) (oi := ⟨some 107, _, _, _, _, _⟩) (v := ?_) rfl (by kernel_rfl) (by kernel_rfl) (by kernel_rfl) (fun _ _ _ h => h) (Or.inl ⟨by rfl, ?_⟩) hH4 ?_
    rotate_left
    · intro w hSw
      try dsimp only at hSw
      go_simp
      try with_reducible rfl
    try simp only [Act.put, List.setIfInBounds_toArray, List.set_cons_zero, List.set_cons_succ]
    refine wpAnyH_take (i := 16) (oi := ⟨some 6, _, _, _, _, _⟩) (v := ?_) rfl (by kernel_rfl) (by kernel_rfl) (by kernel_rfl) (fun _ _ _ h => h) (Or.inl ⟨by rfl, ?_⟩) hH4 ?_
    rotate_left
    · intro w hSw
      try dsimp only at hSw
      go_simp
      try with_reducible rfl
    try simp only [Act.put, List.setIfInBounds_toArray, List.set_cons_zero, List.set_cons_succ]
    refine wpAnyH_done (by kernel_rfl) ?_ _
    go_wp2_with fail
    go_ret
    exact ⟨rfl, M13.out.low⟩
set_option maxRecDepth 100000 in
set_option maxHeartbeats 12800000 in
theorem copied_two {w : World} {N : Int} {A : Option Addr} {ml cap n cp b off I J t u : Nat} {fz f : Nat → Int} {C L H : Int} (hz : ZArg w (zoneV N A ml cap) N ml fz) (h : ml ≤ 100) (hn : n + 1 = zm N) (hI : I = t + 1) (hJ : J = u + 1) (ht : t < n) (hu : u < n) (hC : -2305843009213693952 ≤ C ∧ C ≤ 2305843009213693952) (hp : PtAt w b off n f) (hij : t ≠ u) :
    Calls Tryd.prog 7 #[zoneV N A ml cap, .slice (some ⟨b, off, none⟩) n cp, .agg #[.int .i64 (I : Int), .int .i64 (J : Int), .int .i64 C, .int .i64 L, .int .i64 H]] w (RetB w true) := by
  obtain ⟨h0, h7⟩ := zm_bd N
  have HT := Lib.hid (mv_new w N A ml cap (I : Int) (J : Int) C L H)
  have HP := Lib.hid (fun (W : World) (hb : Below w.heap.size w W) => hp.below hb)
  have hD : ∀ D, zr N ml fz = some D → Closed (zm N) D := fun D e => zr_closed e
  have HClo : Hid (∀ W, Below w.heap.size w W → Calls Tryd.prog 11 #[zoneV N A ml cap] W (RetC W (zm N) (zr N ml fz))) := Lib.hid fun W hb => close_z (hz.below hb)
  have HCl : Hid (∀ W, Below w.heap.size w W → Calls Tryd.prog 19 #[zoneV N A ml cap] W (RetC W (zm N) (zr N ml fz))) := Lib.hid fun W hb => rclean_z (hz.below hb)
  have HE := Lib.hid (decide_eq_true h)
  obtain ⟨m, hm⟩ : ∃ m, zm N = m := ⟨_, rfl⟩
  obtain ⟨R, hR⟩ : ∃ R, zr N ml fz = R := ⟨_, rfl⟩
  rw [hm] at h0 h7 hD HClo HCl hn
  rw [hR] at hD HClo HCl
  clear hm hz h hR
  have H0 := Lib.hid h0
  have H7 := Lib.hid h7
  have HCp : Hid (∀ W, Below w.heap.size w W → Calls Tryd.prog 37 #[zoneV N A ml cap, .int .i64 (I : Int), .int .i64 (J : Int), .int .i64 C] W (RetC W m (cpyO m R (I : Int) (J : Int) C))) := Lib.hid fun W hb => copy_any h0 h7 (fun W1 hb1 => HClo.out W1 (hb.trans (hb1.mono hb.size)))
  have HPu : Hid (∀ x W, Below w.heap.size w W → Calls Tryd.prog 36 #[.slice (some ⟨b, off, none⟩) n cp, .int .i64 (I : Int), .int .i64 x] W (RetRow W n (putF f t x))) := Lib.hid fun x W hb => by
    rw [hI]
    exact put_any (by omega) ht (hp.below hb)
  have hct := cp_two (f := f) hD hn ht hu hij hC
  rw [← hI, ← hJ] at hct
  have HFo : Hid (∀ W, Below w.heap.size w W → Calls Tryd.prog 35 #[zoneV N A ml cap, .int .i64 (I : Int)] W (RetC W m (fgO m R (I : Int)))) := Lib.hid fun W hb => forget_any h0 h7 (fun W1 hb1 => HClo.out W1 (hb.trans (hb1.mono hb.size)))
  have HCo := Lib.hid (fun (k : Nat) (hk : k < n) (hi : inB (f k) = false) => has_off (m := m) (R := cpyO m R (I : Int) (J : Int) C) hi hk)
  have HPx : Hid (∀ W, Below w.heap.size w W → W.cell? ⟨b, off + t, none⟩ = some (.int .i64 (f t)) ∧ W.cell? ⟨b, off + u, none⟩ = some (.int .i64 (f u))) := Lib.hid fun W hb => ⟨(hp.below hb).2 t ht, (hp.below hb).2 u hu⟩
  obtain ⟨RC, hRC⟩ : ∃ R', cpyO m R (I : Int) (J : Int) C = R' := ⟨_, rfl⟩
  obtain ⟨RF, hRF⟩ : ∃ R', fgO m R (I : Int) = R' := ⟨_, rfl⟩
  rw [hRC] at HCp HCo hct
  rw [hRF] at HFo hct
  obtain ⟨bl, hbl⟩ : ∃ r, hasO m n f RC = r := ⟨_, rfl⟩
  obtain ⟨bf, hbf⟩ : ∃ r, hasO m n f RF = r := ⟨_, rfl⟩
  have HCh := Lib.hid hbl
  have HFh := Lib.hid hbf
  rw [hbl] at HCo hct
  rw [hbf] at hct
  have HCt := Lib.hid hct
  have HC := Lib.hid hC
  have HU := Lib.hid hu
  have HN := Lib.hid (show n ≤ 6 by omega)
  have d0 : decide ((6 : Int) < (n : Int)) = false := decide_eq_false (by omega)
  have D0 : decide (6 < n) = false := decide_eq_false (by omega)
  have d1 : ((n : Int) == (m : Int) - 1) = true := by simp; omega
  have D1 : decide ((n : Int) = (m : Int) - 1) = true := decide_eq_true (by omega)
  have E1 : ((n : Int) != (m : Int) - 1) = false := by simp; omega
  have d2 : decide ((I : Int) < 1) = false := decide_eq_false (by omega)
  have d3 : decide ((n : Int) < (I : Int)) = false := decide_eq_false (by omega)
  have d4 : decide ((J : Int) < 1) = false := decide_eq_false (by omega)
  have d5 : decide ((n : Int) < (J : Int)) = false := decide_eq_false (by omega)
  have d6 : decide (C < -2305843009213693952) = false := decide_eq_false (by omega)
  have d7 : decide (2305843009213693952 < C) = false := decide_eq_false (by omega)
  have D2 : decide (I < 1) = false := decide_eq_false (by omega)
  have D4 : decide (J < 1) = false := decide_eq_false (by omega)
  have D3 : decide (n < I) = false := decide_eq_false (by omega)
  have D5 : decide (n < J) = false := decide_eq_false (by omega)
  have v3 : IntKind.i64.wrap ((I : Int) - 1) = (t : Int) := by rw [show (I : Int) - 1 = (t : Int) by omega]; exact IntWalk.i64_in _ (by omega)
  have v4 : IntKind.i64.wrap ((J : Int) - 1) = (u : Int) := by rw [show (J : Int) - 1 = (u : Int) by omega]; exact IntWalk.i64_in _ (by omega)
  have i7 : (t : Int) < (n : Int) := by omega
  have i8 : (u : Int) < (n : Int) := by omega
  have fz := field_n
  have b1' : ((I : Int) == (J : Int)) = false := by simp; omega
  clear hp hn hI hJ ht hu hC h0 h7 HClo hD hij hRC hRF hbl hbf hct
  go_enter Tryd.func7, Tryd.ntmps7
  go_wp2_with (first
    | (go_at_call 9; ((with_reducible refine (few_any _ _ A ml cap).mono ?_); rw [HE.out]; rintro e w1 ⟨rfl, hb1⟩); have M1 := Lib.hid (HT.out.below hb1); obtain ⟨⟨a0, a1⟩, a2, a3, a4, a5, a6⟩ := M1.out.s; obtain ⟨a7, a8⟩ := M1.out.sz; have B1 := Lib.hid M1.out.low; clear hb1)
    | (go_at_call 19; ((with_reducible refine (HCl.out _ B1.out).mono ?_); rintro e w2 ⟨A2, c2, rfl, hz2, hb2⟩); have M2 := Lib.hid (M1.out.below hb2); obtain ⟨⟨b0, b1⟩, b2, b3, b4, b5, b6⟩ := M2.out.s; obtain ⟨b7, b8⟩ := M2.out.sz; have B2 := Lib.hid M2.out.low; clear hb2 hz2 a0 a1 a2 a3 a4 a5 a6 a7 a8))
  have M2d := Lib.hid (M2.out.below (Below.refl _ _).drew)
  clear b0 b1 b2 b3 b4 b5 b6 b7 b8
  refine wp_region_held_drew (S := fun w' => (w'.cell? ⟨w.heap.size, 0, none⟩ = some (.int .i64 N) ∧ w'.cell? ⟨w.heap.size, 1, none⟩ = some (.slice A ml cap)) ∧ w'.cell? ⟨w.heap.size + 1, 0, none⟩ = some (.int .i64 (I : Int)) ∧ w'.cell? ⟨w.heap.size + 1, 1, none⟩ = some (.int .i64 (J : Int)) ∧ w'.cell? ⟨w.heap.size + 1, 2, none⟩ = some (.int .i64 C) ∧ w'.cell? ⟨w.heap.size + 1, 3, none⟩ = some (.int .i64 L) ∧ w'.cell? ⟨w.heap.size + 1, 4, none⟩ = some (.int .i64 H)) (by kernel_rfl) (M2d.out.s) (fun hH0 => ?_)
  refine wpAnyH_take (i := 0) (oi := ⟨some 62, _, _, _, _, _⟩) (v := ?_) rfl (by kernel_rfl) (by kernel_rfl) (by kernel_rfl) (fun _ _ _ h => h) (Or.inl ⟨by rfl, ?_⟩) hH0 ?_
  rotate_left
  · intro w hSw
    try dsimp only at hSw
    go_simp
    try with_reducible rfl
  try simp only [Act.put, List.setIfInBounds_toArray, List.set_cons_zero, List.set_cons_succ]
  refine wpAnyH_take (i := 2) (oi := ⟨some 64, _, _, _, _, _⟩) (v := ?_) rfl (by kernel_rfl) (by kernel_rfl) (by kernel_rfl) (fun _ _ _ h => h) (Or.inl ⟨by rfl, ?_⟩) hH0 ?_
  rotate_left
  · intro w hSw
    try dsimp only at hSw
    go_simp
    try with_reducible rfl
  try simp only [Act.put, List.setIfInBounds_toArray, List.set_cons_zero, List.set_cons_succ]
  refine wpAnyH_take (i := 3) (oi := ⟨some 65, _, _, _, _, _⟩) (v := ?_) rfl (by kernel_rfl) (by kernel_rfl) (by kernel_rfl) (fun _ _ _ h => h) (Or.inl ⟨by rfl, ?_⟩) hH0 ?_
  rotate_left
  · intro w hSw
    try dsimp only at hSw
    go_simp
    try with_reducible rfl
  try simp only [Act.put, List.setIfInBounds_toArray, List.set_cons_zero, List.set_cons_succ]
  refine wpAnyH_take (i := 4) (oi := ⟨some 66, _, _, _, _, _⟩) (v := ?_) rfl (by kernel_rfl) (by kernel_rfl) (by kernel_rfl) (fun _ _ _ h => h) (Or.inl ⟨by rfl, ?_⟩) hH0 ?_
  rotate_left
  · intro w hSw
    try dsimp only at hSw
    go_simp
    try with_reducible rfl
  try simp only [Act.put, List.setIfInBounds_toArray, List.set_cons_zero, List.set_cons_succ]
  refine wpAnyH_take (i := 5) (oi := ⟨some 67, _, _, _, _, _⟩) (v := ?_) rfl (by kernel_rfl) (by kernel_rfl) (by kernel_rfl) (fun _ _ _ h => h) (Or.inl ⟨by rfl, ?_⟩) hH0 ?_
  rotate_left
  · intro w hSw
    try dsimp only at hSw
    go_simp
    try with_reducible rfl
  try simp only [Act.put, List.setIfInBounds_toArray, List.set_cons_zero, List.set_cons_succ]
  refine wpAnyH_take (i := 6) (oi := ⟨some 68, _, _, _, _, _⟩) (v := ?_) rfl (by kernel_rfl) (by kernel_rfl) (by kernel_rfl) (fun _ _ _ h => h) (Or.inl ⟨by rfl, ?_⟩) hH0 ?_
  rotate_left
  · intro w hSw
    try dsimp only at hSw
    go_simp
    try with_reducible rfl
  try simp only [Act.put, List.setIfInBounds_toArray, List.set_cons_zero, List.set_cons_succ]
  refine wpAnyH_take (i := 7) (oi := ⟨some 69, _, _, _, _, _⟩) (v := ?_) rfl (by kernel_rfl) (by kernel_rfl) (by kernel_rfl) (fun _ _ _ h => h) (Or.inl ⟨by rfl, ?_⟩) hH0 ?_
  rotate_left
  · intro w hSw
    try dsimp only at hSw
    go_simp
    try with_reducible rfl
  try simp only [Act.put, List.setIfInBounds_toArray, List.set_cons_zero, List.set_cons_succ]
  refine wpAnyH_take (i := 9) (oi := ⟨some 71, _, _, _, _, _⟩) (v := ?_) rfl (by kernel_rfl) (by kernel_rfl) (by kernel_rfl) (fun _ _ _ h => h) (Or.inl ⟨by rfl, ?_⟩) hH0 ?_
  rotate_left
  · intro w hSw
    try dsimp only at hSw
    go_simp
    try with_reducible rfl
  try simp only [Act.put, List.setIfInBounds_toArray, List.set_cons_zero, List.set_cons_succ]
  refine wpAnyH_ready (rs := [1]) (by kernel_rfl) (by simp) ?_
  refine AllReadyH.cons (o := ⟨some 63, _, _, _, _, _⟩) rfl (fun K hK => ?_) AllReadyH.nil
  go_simp
  refine (of_zone _ N A ml cap).mono ?_
  rintro e w5 ⟨rfl, hb5⟩
  have M5 := Lib.hid (M2d.out.below hb5); clear hb5
  go_wp2_with fail
  refine hK.out _ _ (M5.out.s) (fun hH1 => ?_)
  clear hK K hH0
  try simp only [Act.put, List.setIfInBounds_toArray, List.set_cons_zero, List.set_cons_succ]
  refine wpAnyH_ready (rs := [8]) (by kernel_rfl) (by simp) ?_
  refine AllReadyH.cons (o := ⟨some 70, _, _, _, _, _⟩) rfl (fun K hK => ?_) AllReadyH.nil
  go_simp
  refine (HCp.out _ M5.out.low).mono ?_
  rintro e w6 ⟨A6, c6, rfl, hz6, hb6⟩
  have M6 := Lib.hid (M5.out.below hb6); have Z6 := Lib.hid hz6; clear hb6 hz6
  go_wp2_with fail
  refine hK.out _ _ (M6.out.s) (fun hH2 => ?_)
  clear hK K hH1
  try simp only [Act.put, List.setIfInBounds_toArray, List.set_cons_zero, List.set_cons_succ]
  refine wpAnyH_ready (rs := [10]) (by kernel_rfl) (by simp) ?_
  refine AllReadyH.cons (o := ⟨some 72, _, _, _, _, _⟩) rfl (fun K hK => ?_) AllReadyH.nil
  go_simp
  refine (has_is H0.out H7.out Z6.out (HP.out _ M6.out.low) HCh.out).mono ?_
  rintro e w7 ⟨rfl, hb7⟩
  have M7 := Lib.hid (M6.out.below hb7); clear hb7
  go_wp2_with fail
  refine hK.out _ _ (M7.out.s) (fun hH3 => ?_)
  clear hK K hH2
  try simp only [Act.put, List.setIfInBounds_toArray, List.set_cons_zero, List.set_cons_succ]
  refine wpAnyH_take (i := 11) (oi := ⟨some 7, _, _, _, _, _⟩) (v := ?_) rfl (by kernel_rfl) (by kernel_rfl) (by kernel_rfl) (fun _ _ _ h => h) (Or.inl ⟨by rfl, ?_⟩) hH3 ?_
  rotate_left
  · intro w hSw
    try dsimp only at hSw
    go_simp
    try with_reducible rfl
  try simp only [Act.put, List.setIfInBounds_toArray, List.set_cons_zero, List.set_cons_succ]
  refine wpAnyH_done (by kernel_rfl) ?_ _
  obtain ⟨⟨k0, k1⟩, k2, k3, k4, k5, k6⟩ := M7.out.s
  obtain ⟨k7, k8⟩ := M7.out.sz
  skip
  go_wp2_with fail
  go_loopg [110] n (fun gk s wr => ∃ k : Nat, k + gk = n ∧ s = .int .i64 (k : Int) ∧ MV w N A ml cap (I : Int) (J : Int) C L H wr ∧ ∀ j, j < k → inB (f j) = true)
  case atStart => exact ⟨0, by omega, rfl, M7.out, fun j hj => absurd hj (Nat.not_lt_zero _)⟩
  case round =>
    rename Nat => g0
    obtain ⟨k, hk, rfl, hM, hall⟩ := hrel
    have HK := Lib.hid hk
    have M7' := Lib.hid hM
    have HAll := Lib.hid hall
    clear hk hM hall k0 k1 k2 k3 k4 k5 k6 k7 k8 M7
    by_cases hkn : k < n
    · have p0 := (HP.out _ M7'.out.low).2 k hkn
      have wk : IntKind.i64.wrap ((k : Int) + 1) = (k : Int) + 1 := IntWalk.i64_in _ (by have := HN.out; omega)
      have p1 := (HP.out _ M7'.out.low).1
      have i9 : (k : Int) < (n : Int) := by omega
      have HCk := Lib.hid (HCo.out k hkn)
      obtain ⟨x, hx⟩ : ∃ x, f k = x := ⟨_, rfl⟩
      rw [hx] at p0 HCk
      have HXk := Lib.hid hx
      clear hx
      cases hin : inB x
      · have HIn : Hid (∀ W, Calls Tryd.prog 34 #[.int .i64 x] W (RetB W false)) := Lib.hid fun W => (in_any x W).mono fun e W1 h => ⟨by rw [h.1, hin], by rw [← h.2]; exact Below.refl _ _⟩
        obtain rfl : bl = false := HCk.out hin
        go_wp2_with (first
          | (go_at_call 34; ((with_reducible refine (HIn.out _).mono ?_); rintro e w8 ⟨rfl, hb8⟩); have M8 := Lib.hid (M7'.out.below hb8); clear hb8)
          | (go_at_call 10; ((with_reducible refine (alive_any _).mono ?_); rintro e w9 ⟨rfl, hb9⟩); have M9 := Lib.hid (M8.out.below hb9); clear hb9))
        go_ret
        exact ⟨rfl, M9.out.low⟩
      · have HIn : Hid (∀ W, Calls Tryd.prog 34 #[.int .i64 x] W (RetB W true)) := Lib.hid fun W => (in_any x W).mono fun e W1 h => ⟨by rw [h.1, hin], by rw [← h.2]; exact Below.refl _ _⟩
        have HY : Hid (∀ j, j < k + 1 → inB (f j) = true) := Lib.hid fun j hj => by
          by_cases e : j = k
          · subst e; rw [HXk.out]; exact hin
          · exact HAll.out j (by omega)
        go_wp2_with (first
          | (go_at_call 34; ((with_reducible refine (HIn.out _).mono ?_); rintro e w8 ⟨rfl, hb8⟩); have M8 := Lib.hid (M7'.out.below hb8); clear hb8))
        have hk := HK.out
        go_roundg (g0 - 1)
        case measure => omega
        case rel => exact ⟨k + 1, by omega, by simp, M8.out, HY.out⟩
    · have hke : k = n := by have := HK.out; omega
      subst hke
      have hxu := inB_bd (HAll.out u HU.out)
      have hc := HC.out
      have v5 : IntKind.i64.wrap (f u + C) = f u + C := IntWalk.i64_in _ (by omega)
      clear hxu hc
      obtain ⟨x0, hx0⟩ : ∃ x, f t = x := ⟨_, rfl⟩
      obtain ⟨x1, hx1⟩ : ∃ x, f u = x := ⟨_, rfl⟩
      rw [hx0, hx1] at HPx HCt
      rw [hx1] at v5
      obtain ⟨y, hy⟩ : ∃ y, x1 + C = y := ⟨_, rfl⟩
      have v6 : IntKind.i64.wrap (x1 + C) = y := by rw [v5]; exact hy
      rw [hy] at HCt
      clear hx0 hx1 hy v5
      have M9d := Lib.hid (M7'.out.below (Below.refl _ _).drew)
      have X9 := Lib.hid (HPx.out _ M9d.out.low)
      by_cases heq : x0 = y
      · have c1 : decide (x0 = y) = true := decide_eq_true heq
        have c2 : (x0 == y) = true := by simpa using heq
        obtain rfl : bl = bf := by have := HCt.out; rw [c1] at this; simpa using this
        clear heq
        go_wp2_with fail
        refine wp_region_held_drew (S := fun w' => ((w'.cell? ⟨w.heap.size, 0, none⟩ = some (.int .i64 N) ∧ w'.cell? ⟨w.heap.size, 1, none⟩ = some (.slice A ml cap)) ∧ w'.cell? ⟨w.heap.size + 1, 0, none⟩ = some (.int .i64 (I : Int)) ∧ w'.cell? ⟨w.heap.size + 1, 1, none⟩ = some (.int .i64 (J : Int)) ∧ w'.cell? ⟨w.heap.size + 1, 2, none⟩ = some (.int .i64 C) ∧ w'.cell? ⟨w.heap.size + 1, 3, none⟩ = some (.int .i64 L) ∧ w'.cell? ⟨w.heap.size + 1, 4, none⟩ = some (.int .i64 H)) ∧ w'.cell? ⟨b, off + t, none⟩ = some (.int .i64 x0) ∧ w'.cell? ⟨b, off + u, none⟩ = some (.int .i64 x1)) (by kernel_rfl) (⟨M9d.out.s, X9.out⟩) (fun hH0 => ?_)
        refine wpAnyH_ready (rs := [0]) (by kernel_rfl) (by simp) ?_
        refine AllReadyH.cons (o := ⟨some 123, _, _, _, _, _⟩) rfl (fun K hK => ?_) AllReadyH.nil
        go_simp
        refine (alive_any _).mono ?_
        rintro e w10 ⟨rfl, hb10⟩
        have M10 := Lib.hid (M9d.out.below hb10); clear hb10; have X10 := Lib.hid (HPx.out _ M10.out.low)
        go_wp2_with fail
        refine hK.out _ _ (⟨M10.out.s, X10.out⟩) (fun hH1 => ?_)
        clear hK K hH0
        try simp only [Act.put, List.setIfInBounds_toArray, List.set_cons_zero, List.set_cons_succ]
        refine wpAnyH_take (i := 1) (oi := ⟨some 124, _, _, _, _, _⟩) (v := ?_) rfl (by kernel_rfl) (by kernel_rfl) (by kernel_rfl) (fun _ _ _ h => h) (Or.inl ⟨by rfl, ?_⟩) hH1 ?_
        rotate_left
        · intro w hSw
          try dsimp only at hSw
          go_simp
          try with_reducible rfl
        try simp only [Act.put, List.setIfInBounds_toArray, List.set_cons_zero, List.set_cons_succ]
        refine wpAnyH_take (i := 2) (oi := ⟨some 125, _, _, _, _, _⟩) (v := ?_) rfl (by kernel_rfl) (by kernel_rfl) (by kernel_rfl) (fun _ _ _ h => h) (Or.inl ⟨by rfl, ?_⟩) hH1 ?_
        rotate_left
        · intro w hSw
          try dsimp only at hSw
          go_simp
          try with_reducible rfl
        try simp only [Act.put, List.setIfInBounds_toArray, List.set_cons_zero, List.set_cons_succ]
        refine wpAnyH_take (i := 3) (oi := ⟨some 126, _, _, _, _, _⟩) (v := ?_) rfl (by kernel_rfl) (by kernel_rfl) (by kernel_rfl) (fun _ _ _ h => h) (Or.inl ⟨by rfl, ?_⟩) hH1 ?_
        rotate_left
        · intro w hSw
          try dsimp only at hSw
          go_simp
          try with_reducible rfl
        try simp only [Act.put, List.setIfInBounds_toArray, List.set_cons_zero, List.set_cons_succ]
        refine wpAnyH_take (i := 4) (oi := ⟨some 127, _, _, _, _, _⟩) (v := ?_) rfl (by kernel_rfl) (by kernel_rfl) (by kernel_rfl) (fun _ _ _ h => h) (Or.inl ⟨by rfl, ?_⟩) hH1 ?_
        rotate_left
        · intro w hSw
          try dsimp only at hSw
          go_simp
          try with_reducible rfl
        try simp only [Act.put, List.setIfInBounds_toArray, List.set_cons_zero, List.set_cons_succ]
        refine wpAnyH_take (i := 5) (oi := ⟨some 128, _, _, _, _, _⟩) (v := ?_) rfl (by kernel_rfl) (by kernel_rfl) (by kernel_rfl) (fun _ _ _ h => h) (Or.inl ⟨by rfl, ?_⟩) hH1 ?_
        rotate_left
        · intro w hSw
          try dsimp only at hSw
          go_simp
          try with_reducible rfl
        try simp only [Act.put, List.setIfInBounds_toArray, List.set_cons_zero, List.set_cons_succ]
        refine wpAnyH_take (i := 6) (oi := ⟨some 129, _, _, _, _, _⟩) (v := ?_) rfl (by kernel_rfl) (by kernel_rfl) (by kernel_rfl) (fun _ _ _ h => h) (Or.inl ⟨by rfl, ?_⟩) hH1 ?_
        rotate_left
        · intro w hSw
          try dsimp only at hSw
          go_simp
          try with_reducible rfl
        try simp only [Act.put, List.setIfInBounds_toArray, List.set_cons_zero, List.set_cons_succ]
        refine wpAnyH_take (i := 7) (oi := ⟨some 130, _, _, _, _, _⟩) (v := ?_) rfl (by kernel_rfl) (by kernel_rfl) (by kernel_rfl) (fun _ _ _ h => h) (Or.inl ⟨by rfl, ?_⟩) hH1 ?_
        rotate_left
        · intro w hSw
          try dsimp only at hSw
          go_simp
          try with_reducible rfl
        try simp only [Act.put, List.setIfInBounds_toArray, List.set_cons_zero, List.set_cons_succ]
        refine wpAnyH_take (i := 8) (oi := ⟨some 131, _, _, _, _, _⟩) (v := ?_) rfl (by kernel_rfl) (by kernel_rfl) (by kernel_rfl) (fun _ _ _ h => h) (Or.inl ⟨by rfl, ?_⟩) hH1 ?_
        rotate_left
        · intro w hSw
          try dsimp only at hSw
          go_simp
          try with_reducible rfl
        try simp only [Act.put, List.setIfInBounds_toArray, List.set_cons_zero, List.set_cons_succ]
        refine wpAnyH_take (i := 9) (oi := ⟨some 132, _, _, _, _, _⟩) (v := ?_) rfl (by kernel_rfl) (by kernel_rfl) (by kernel_rfl) (fun _ _ _ h => h) (Or.inl ⟨by rfl, ?_⟩) hH1 ?_
        rotate_left
        · intro w hSw
          try dsimp only at hSw
          go_simp
          try with_reducible rfl
        try simp only [Act.put, List.setIfInBounds_toArray, List.set_cons_zero, List.set_cons_succ]
        refine wpAnyH_take (i := 10) (oi := ⟨some 133, _, _, _, _, _⟩) (v := ?_) rfl (by kernel_rfl) (by kernel_rfl) (by kernel_rfl) (fun _ _ _ h => h) (Or.inl ⟨by rfl, ?_⟩) hH1 ?_
        rotate_left
        · intro w hSw
          try dsimp only at hSw
          go_simp
          try with_reducible rfl
        try simp only [Act.put, List.setIfInBounds_toArray, List.set_cons_zero, List.set_cons_succ]
        refine wpAnyH_take (i := 11) (oi := ⟨some 134, _, _, _, _, _⟩) (v := ?_) rfl (by kernel_rfl) (by kernel_rfl) (by kernel_rfl) (fun _ _ _ h => h) (Or.inl ⟨by rfl, ?_⟩) hH1 ?_
        rotate_left
        · intro w hSw
          try dsimp only at hSw
          go_simp
          try with_reducible rfl
        try simp only [Act.put, List.setIfInBounds_toArray, List.set_cons_zero, List.set_cons_succ]
        refine wpAnyH_take (i := 12) (oi := ⟨some 135, _, _, _, _, _⟩) (v := ?_) rfl (by kernel_rfl) (by kernel_rfl) (by kernel_rfl) (fun _ _ _ h => h) (Or.inl ⟨by rfl, ?_⟩) hH1 ?_
        rotate_left
        · intro w hSw
          try dsimp only at hSw
          go_simp
          try with_reducible rfl
        try simp only [Act.put, List.setIfInBounds_toArray, List.set_cons_zero, List.set_cons_succ]
        refine wpAnyH_take (i := 13) (oi := ⟨some 136, _, _, _, _, _⟩) (v := ?_) rfl (by kernel_rfl) (by kernel_rfl) (by kernel_rfl) (fun _ _ _ h => h) (Or.inl ⟨by rfl, ?_⟩) hH1 ?_
        rotate_left
        · intro w hSw
          try dsimp only at hSw
          go_simp
          try with_reducible rfl
        try simp only [Act.put, List.setIfInBounds_toArray, List.set_cons_zero, List.set_cons_succ]
        refine wpAnyH_take (i := 14) (oi := ⟨some 137, _, _, _, _, _⟩) (v := ?_) rfl (by kernel_rfl) (by kernel_rfl) (by kernel_rfl) (fun _ _ _ h => h) (Or.inl ⟨by rfl, ?_⟩) hH1 ?_
        rotate_left
        · intro w hSw
          try dsimp only at hSw
          go_simp
          try with_reducible rfl
        try simp only [Act.put, List.setIfInBounds_toArray, List.set_cons_zero, List.set_cons_succ]
        refine wpAnyH_take (i := 15) (oi := ⟨some 138, _, _, _, _, _⟩) (v := ?_) rfl (by kernel_rfl) (by kernel_rfl) (by kernel_rfl) (fun _ _ _ h => h) (Or.inl ⟨by rfl, ?_⟩) hH1 ?_
        rotate_left
        · intro w hSw
          try dsimp only at hSw
          go_simp
          try with_reducible rfl
        try simp only [Act.put, List.setIfInBounds_toArray, List.set_cons_zero, List.set_cons_succ]
        refine wpAnyH_take (i := 16) (oi := ⟨some 139, _, _, _, _, _⟩) (v := ?_) rfl (by kernel_rfl) (by kernel_rfl) (by kernel_rfl) (fun _ _ _ h => h) (Or.inl ⟨by rfl, ?_⟩) hH1 ?_
        rotate_left
        · intro w hSw
          try dsimp only at hSw
          go_simp
          try with_reducible rfl
        try simp only [Act.put, List.setIfInBounds_toArray, List.set_cons_zero, List.set_cons_succ]
        refine wpAnyH_take (i := 17) (oi := ⟨some 140, _, _, _, _, _⟩) (v := ?_) rfl (by kernel_rfl) (by kernel_rfl) (by kernel_rfl) (fun _ _ _ h => h) (Or.inl ⟨by rfl, ?_⟩) hH1 ?_
        rotate_left
        · intro w hSw
          try dsimp only at hSw
          go_simp
          try with_reducible rfl
        try simp only [Act.put, List.setIfInBounds_toArray, List.set_cons_zero, List.set_cons_succ]
        refine wpAnyH_take (i := 18) (oi := ⟨some 141, _, _, _, _, _⟩) (v := ?_) rfl (by kernel_rfl) (by kernel_rfl) (by kernel_rfl) (fun _ _ _ h => h) (Or.inl ⟨by rfl, ?_⟩) hH1 ?_
        rotate_left
        · intro w hSw
          try dsimp only at hSw
          go_simp
          try with_reducible rfl
        try simp only [Act.put, List.setIfInBounds_toArray, List.set_cons_zero, List.set_cons_succ]
        refine wpAnyH_take (i := 19) (oi := ⟨some 142, _, _, _, _, _⟩) (v := ?_) rfl (by kernel_rfl) (by kernel_rfl) (by kernel_rfl) (fun _ _ _ h => h) (Or.inl ⟨by rfl, ?_⟩) hH1 ?_
        rotate_left
        · intro w hSw
          try dsimp only at hSw
          go_simp
          try with_reducible rfl
        try simp only [Act.put, List.setIfInBounds_toArray, List.set_cons_zero, List.set_cons_succ]
        refine wpAnyH_take (i := 20) (oi := ⟨some 143, _, _, _, _, _⟩) (v := ?_) rfl (by kernel_rfl) (by kernel_rfl) (by kernel_rfl) (fun _ _ _ h => h) (Or.inl ⟨by rfl, ?_⟩) hH1 ?_
        rotate_left
        · intro w hSw
          try dsimp only at hSw
          go_simp
          try with_reducible rfl
        try simp only [Act.put, List.setIfInBounds_toArray, List.set_cons_zero, List.set_cons_succ]
        refine wpAnyH_take (i := 22) (oi := ⟨some 145, _, _, _, _, _⟩) (v := ?_) rfl (by kernel_rfl) (by kernel_rfl) (by kernel_rfl) (fun _ _ _ h => h) (Or.inl ⟨by rfl, ?_⟩) hH1 ?_
        rotate_left
        · intro w hSw
          try dsimp only at hSw
          go_simp
          try with_reducible rfl
        try simp only [Act.put, List.setIfInBounds_toArray, List.set_cons_zero, List.set_cons_succ]
        refine wpAnyH_take (i := 23) (oi := ⟨some 146, _, _, _, _, _⟩) (v := ?_) rfl (by kernel_rfl) (by kernel_rfl) (by kernel_rfl) (fun _ _ _ h => h) (Or.inl ⟨by rfl, ?_⟩) hH1 ?_
        rotate_left
        · intro w hSw
          try dsimp only at hSw
          go_simp
          try with_reducible rfl
        try simp only [Act.put, List.setIfInBounds_toArray, List.set_cons_zero, List.set_cons_succ]
        refine wpAnyH_take (i := 25) (oi := ⟨some 148, _, _, _, _, _⟩) (v := ?_) rfl (by kernel_rfl) (by kernel_rfl) (by kernel_rfl) (fun _ _ _ h => h) (Or.inl ⟨by rfl, ?_⟩) hH1 ?_
        rotate_left
        · intro w hSw
          try dsimp only at hSw
          go_simp
          try with_reducible rfl
        try simp only [Act.put, List.setIfInBounds_toArray, List.set_cons_zero, List.set_cons_succ]
        refine wpAnyH_ready (rs := [21]) (by kernel_rfl) (by simp) ?_
        refine AllReadyH.cons (o := ⟨some 144, _, _, _, _, _⟩) rfl (fun K hK => ?_) AllReadyH.nil
        go_simp
        refine (of_zone _ N A ml cap).mono ?_
        rintro e w11 ⟨rfl, hb11⟩
        have M11 := Lib.hid (M10.out.below hb11); clear hb11; have X11 := Lib.hid (HPx.out _ M11.out.low)
        go_wp2_with fail
        refine hK.out _ _ (⟨M11.out.s, X11.out⟩) (fun hH2 => ?_)
        clear hK K hH1
        try simp only [Act.put, List.setIfInBounds_toArray, List.set_cons_zero, List.set_cons_succ]
        refine wpAnyH_ready (rs := [24]) (by kernel_rfl) (by simp) ?_
        refine AllReadyH.cons (o := ⟨some 147, _, _, _, _, _⟩) rfl (fun K hK => ?_) AllReadyH.nil
        go_simp
        refine (HFo.out _ M11.out.low).mono ?_
        rintro e w12 ⟨A12, c12, rfl, hz12, hb12⟩
        have M12 := Lib.hid (M11.out.below hb12); have Z12 := Lib.hid hz12; clear hb12 hz12; have X12 := Lib.hid (HPx.out _ M12.out.low)
        go_wp2_with fail
        refine hK.out _ _ (⟨M12.out.s, X12.out⟩) (fun hH3 => ?_)
        clear hK K hH2
        try simp only [Act.put, List.setIfInBounds_toArray, List.set_cons_zero, List.set_cons_succ]
        refine wpAnyH_ready (rs := [26]) (by kernel_rfl) (by simp) ?_
        refine AllReadyH.cons (o := ⟨some 149, _, _, _, _, _⟩) rfl (fun K hK => ?_) AllReadyH.nil
        go_simp
        refine (has_is H0.out H7.out Z12.out (HP.out _ M12.out.low) HFh.out).mono ?_
        rintro e w13 ⟨rfl, hb13⟩
        have M13 := Lib.hid (M12.out.below hb13); clear hb13; have X13 := Lib.hid (HPx.out _ M13.out.low)
        go_wp2_with fail
        refine hK.out _ _ (⟨M13.out.s, X13.out⟩) (fun hH4 => ?_)
        clear hK K hH3
        try simp only [Act.put, List.setIfInBounds_toArray, List.set_cons_zero, List.set_cons_succ]
        refine wpAnyH_take (i := 27) (oi := ⟨some 150, _, _, _, _, _⟩) (v := ?_) rfl (by kernel_rfl) (by kernel_rfl) (by kernel_rfl) (fun _ _ _ h => h) (Or.inl ⟨by rfl, ?_⟩) hH4 ?_
        rotate_left
        · intro w hSw
          try dsimp only at hSw
          go_simp
          try with_reducible rfl
        try simp only [Act.put, List.setIfInBounds_toArray, List.set_cons_zero, List.set_cons_succ]
        refine wpAnyH_take (i := 28) (oi := ⟨some 151, _, _, _, _, _⟩) (v := ?_) rfl (by kernel_rfl) (by kernel_rfl) (by kernel_rfl) (fun _ _ _ h => h) (Or.inl ⟨by rfl, ?_⟩) hH4 ?_
        rotate_left
        · intro w hSw
          try dsimp only at hSw
          go_simp
          try with_reducible rfl
        try simp only [Act.put, List.setIfInBounds_toArray, List.set_cons_zero, List.set_cons_succ]
        refine wpAnyH_take (i := 29) (oi := ⟨some 152, _, _, _, _, _⟩) (v := ?_) rfl (by kernel_rfl) (by kernel_rfl) (by kernel_rfl) (fun _ _ _ h => h) (Or.inl ⟨by rfl, ?_⟩) hH4 ?_
        rotate_left
        · intro w hSw
          try dsimp only at hSw
          go_simp
          try with_reducible rfl
        try simp only [Act.put, List.setIfInBounds_toArray, List.set_cons_zero, List.set_cons_succ]
        refine wpAnyH_take (i := 30) (oi := ⟨some 6, _, _, _, _, _⟩) (v := ?_) rfl (by kernel_rfl) (by kernel_rfl) (by kernel_rfl) (fun _ _ _ h => h) (Or.inl ⟨by rfl, ?_⟩) hH4 ?_
        rotate_left
        · intro w hSw
          try dsimp only at hSw
          go_simp
          try with_reducible rfl
        try simp only [Act.put, List.setIfInBounds_toArray, List.set_cons_zero, List.set_cons_succ]
        refine wpAnyH_done (by kernel_rfl) ?_ _
        go_wp2_with fail
        go_ret
        exact ⟨rfl, M13.out.low⟩
      · have c1 : decide (x0 = y) = false := decide_eq_false heq
        have c2 : (x0 == y) = false := by simpa using heq
        obtain rfl : bl = false := by have := HCt.out; rw [c1] at this; simpa using this
        clear heq
        go_wp2_with fail
        refine wp_region_held_drew (S := fun w' => ((w'.cell? ⟨w.heap.size, 0, none⟩ = some (.int .i64 N) ∧ w'.cell? ⟨w.heap.size, 1, none⟩ = some (.slice A ml cap)) ∧ w'.cell? ⟨w.heap.size + 1, 0, none⟩ = some (.int .i64 (I : Int)) ∧ w'.cell? ⟨w.heap.size + 1, 1, none⟩ = some (.int .i64 (J : Int)) ∧ w'.cell? ⟨w.heap.size + 1, 2, none⟩ = some (.int .i64 C) ∧ w'.cell? ⟨w.heap.size + 1, 3, none⟩ = some (.int .i64 L) ∧ w'.cell? ⟨w.heap.size + 1, 4, none⟩ = some (.int .i64 H)) ∧ w'.cell? ⟨b, off + t, none⟩ = some (.int .i64 x0) ∧ w'.cell? ⟨b, off + u, none⟩ = some (.int .i64 x1)) (by kernel_rfl) (⟨M9d.out.s, X9.out⟩) (fun hH0 => ?_)
        refine wpAnyH_ready (rs := [0]) (by kernel_rfl) (by simp) ?_
        refine AllReadyH.cons (o := ⟨some 123, _, _, _, _, _⟩) rfl (fun K hK => ?_) AllReadyH.nil
        go_simp
        refine (alive_any _).mono ?_
        rintro e w10 ⟨rfl, hb10⟩
        have M10 := Lib.hid (M9d.out.below hb10); clear hb10; have X10 := Lib.hid (HPx.out _ M10.out.low)
        go_wp2_with fail
        refine hK.out _ _ (⟨M10.out.s, X10.out⟩) (fun hH1 => ?_)
        clear hK K hH0
        try simp only [Act.put, List.setIfInBounds_toArray, List.set_cons_zero, List.set_cons_succ]
        refine wpAnyH_take (i := 1) (oi := ⟨some 124, _, _, _, _, _⟩) (v := ?_) rfl (by kernel_rfl) (by kernel_rfl) (by kernel_rfl) (fun _ _ _ h => h) (Or.inl ⟨by rfl, ?_⟩) hH1 ?_
        rotate_left
        · intro w hSw
          try dsimp only at hSw
          go_simp
          try with_reducible rfl
        try simp only [Act.put, List.setIfInBounds_toArray, List.set_cons_zero, List.set_cons_succ]
        refine wpAnyH_take (i := 2) (oi := ⟨some 125, _, _, _, _, _⟩) (v := ?_) rfl (by kernel_rfl) (by kernel_rfl) (by kernel_rfl) (fun _ _ _ h => h) (Or.inl ⟨by rfl, ?_⟩) hH1 ?_
        rotate_left
        · intro w hSw
          try dsimp only at hSw
          go_simp
          try with_reducible rfl
        try simp only [Act.put, List.setIfInBounds_toArray, List.set_cons_zero, List.set_cons_succ]
        refine wpAnyH_take (i := 3) (oi := ⟨some 126, _, _, _, _, _⟩) (v := ?_) rfl (by kernel_rfl) (by kernel_rfl) (by kernel_rfl) (fun _ _ _ h => h) (Or.inl ⟨by rfl, ?_⟩) hH1 ?_
        rotate_left
        · intro w hSw
          try dsimp only at hSw
          go_simp
          try with_reducible rfl
        try simp only [Act.put, List.setIfInBounds_toArray, List.set_cons_zero, List.set_cons_succ]
        refine wpAnyH_take (i := 4) (oi := ⟨some 127, _, _, _, _, _⟩) (v := ?_) rfl (by kernel_rfl) (by kernel_rfl) (by kernel_rfl) (fun _ _ _ h => h) (Or.inl ⟨by rfl, ?_⟩) hH1 ?_
        rotate_left
        · intro w hSw
          try dsimp only at hSw
          go_simp
          try with_reducible rfl
        try simp only [Act.put, List.setIfInBounds_toArray, List.set_cons_zero, List.set_cons_succ]
        refine wpAnyH_take (i := 5) (oi := ⟨some 128, _, _, _, _, _⟩) (v := ?_) rfl (by kernel_rfl) (by kernel_rfl) (by kernel_rfl) (fun _ _ _ h => h) (Or.inl ⟨by rfl, ?_⟩) hH1 ?_
        rotate_left
        · intro w hSw
          try dsimp only at hSw
          go_simp
          try with_reducible rfl
        try simp only [Act.put, List.setIfInBounds_toArray, List.set_cons_zero, List.set_cons_succ]
        refine wpAnyH_take (i := 6) (oi := ⟨some 129, _, _, _, _, _⟩) (v := ?_) rfl (by kernel_rfl) (by kernel_rfl) (by kernel_rfl) (fun _ _ _ h => h) (Or.inl ⟨by rfl, ?_⟩) hH1 ?_
        rotate_left
        · intro w hSw
          try dsimp only at hSw
          go_simp
          try with_reducible rfl
        try simp only [Act.put, List.setIfInBounds_toArray, List.set_cons_zero, List.set_cons_succ]
        refine wpAnyH_take (i := 7) (oi := ⟨some 130, _, _, _, _, _⟩) (v := ?_) rfl (by kernel_rfl) (by kernel_rfl) (by kernel_rfl) (fun _ _ _ h => h) (Or.inl ⟨by rfl, ?_⟩) hH1 ?_
        rotate_left
        · intro w hSw
          try dsimp only at hSw
          go_simp
          try with_reducible rfl
        try simp only [Act.put, List.setIfInBounds_toArray, List.set_cons_zero, List.set_cons_succ]
        refine wpAnyH_take (i := 8) (oi := ⟨some 131, _, _, _, _, _⟩) (v := ?_) rfl (by kernel_rfl) (by kernel_rfl) (by kernel_rfl) (fun _ _ _ h => h) (Or.inl ⟨by rfl, ?_⟩) hH1 ?_
        rotate_left
        · intro w hSw
          try dsimp only at hSw
          go_simp
          try with_reducible rfl
        try simp only [Act.put, List.setIfInBounds_toArray, List.set_cons_zero, List.set_cons_succ]
        refine wpAnyH_take (i := 9) (oi := ⟨some 132, _, _, _, _, _⟩) (v := ?_) rfl (by kernel_rfl) (by kernel_rfl) (by kernel_rfl) (fun _ _ _ h => h) (Or.inl ⟨by rfl, ?_⟩) hH1 ?_
        rotate_left
        · intro w hSw
          try dsimp only at hSw
          go_simp
          try with_reducible rfl
        try simp only [Act.put, List.setIfInBounds_toArray, List.set_cons_zero, List.set_cons_succ]
        refine wpAnyH_take (i := 10) (oi := ⟨some 133, _, _, _, _, _⟩) (v := ?_) rfl (by kernel_rfl) (by kernel_rfl) (by kernel_rfl) (fun _ _ _ h => h) (Or.inl ⟨by rfl, ?_⟩) hH1 ?_
        rotate_left
        · intro w hSw
          try dsimp only at hSw
          go_simp
          try with_reducible rfl
        try simp only [Act.put, List.setIfInBounds_toArray, List.set_cons_zero, List.set_cons_succ]
        refine wpAnyH_take (i := 11) (oi := ⟨some 134, _, _, _, _, _⟩) (v := ?_) rfl (by kernel_rfl) (by kernel_rfl) (by kernel_rfl) (fun _ _ _ h => h) (Or.inl ⟨by rfl, ?_⟩) hH1 ?_
        rotate_left
        · intro w hSw
          try dsimp only at hSw
          go_simp
          try with_reducible rfl
        try simp only [Act.put, List.setIfInBounds_toArray, List.set_cons_zero, List.set_cons_succ]
        refine wpAnyH_take (i := 12) (oi := ⟨some 135, _, _, _, _, _⟩) (v := ?_) rfl (by kernel_rfl) (by kernel_rfl) (by kernel_rfl) (fun _ _ _ h => h) (Or.inl ⟨by rfl, ?_⟩) hH1 ?_
        rotate_left
        · intro w hSw
          try dsimp only at hSw
          go_simp
          try with_reducible rfl
        try simp only [Act.put, List.setIfInBounds_toArray, List.set_cons_zero, List.set_cons_succ]
        refine wpAnyH_take (i := 13) (oi := ⟨some 136, _, _, _, _, _⟩) (v := ?_) rfl (by kernel_rfl) (by kernel_rfl) (by kernel_rfl) (fun _ _ _ h => h) (Or.inl ⟨by rfl, ?_⟩) hH1 ?_
        rotate_left
        · intro w hSw
          try dsimp only at hSw
          go_simp
          try with_reducible rfl
        try simp only [Act.put, List.setIfInBounds_toArray, List.set_cons_zero, List.set_cons_succ]
        refine wpAnyH_take (i := 14) (oi := ⟨some 137, _, _, _, _, _⟩) (v := ?_) rfl (by kernel_rfl) (by kernel_rfl) (by kernel_rfl) (fun _ _ _ h => h) (Or.inl ⟨by rfl, ?_⟩) hH1 ?_
        rotate_left
        · intro w hSw
          try dsimp only at hSw
          go_simp
          try with_reducible rfl
        try simp only [Act.put, List.setIfInBounds_toArray, List.set_cons_zero, List.set_cons_succ]
        refine wpAnyH_take (i := 15) (oi := ⟨some 138, _, _, _, _, _⟩) (v := ?_) rfl (by kernel_rfl) (by kernel_rfl) (by kernel_rfl) (fun _ _ _ h => h) (Or.inl ⟨by rfl, ?_⟩) hH1 ?_
        rotate_left
        · intro w hSw
          try dsimp only at hSw
          go_simp
          try with_reducible rfl
        try simp only [Act.put, List.setIfInBounds_toArray, List.set_cons_zero, List.set_cons_succ]
        refine wpAnyH_take (i := 16) (oi := ⟨some 139, _, _, _, _, _⟩) (v := ?_) rfl (by kernel_rfl) (by kernel_rfl) (by kernel_rfl) (fun _ _ _ h => h) (Or.inl ⟨by rfl, ?_⟩) hH1 ?_
        rotate_left
        · intro w hSw
          try dsimp only at hSw
          go_simp
          try with_reducible rfl
        try simp only [Act.put, List.setIfInBounds_toArray, List.set_cons_zero, List.set_cons_succ]
        refine wpAnyH_take (i := 17) (oi := ⟨some 140, _, _, _, _, _⟩) (v := ?_) rfl (by kernel_rfl) (by kernel_rfl) (by kernel_rfl) (fun _ _ _ h => h) (Or.inl ⟨by rfl, ?_⟩) hH1 ?_
        rotate_left
        · intro w hSw
          try dsimp only at hSw
          go_simp
          try with_reducible rfl
        try simp only [Act.put, List.setIfInBounds_toArray, List.set_cons_zero, List.set_cons_succ]
        refine wpAnyH_take (i := 18) (oi := ⟨some 141, _, _, _, _, _⟩) (v := ?_) rfl (by kernel_rfl) (by kernel_rfl) (by kernel_rfl) (fun _ _ _ h => h) (Or.inl ⟨by rfl, ?_⟩) hH1 ?_
        rotate_left
        · intro w hSw
          try dsimp only at hSw
          go_simp
          try with_reducible rfl
        try simp only [Act.put, List.setIfInBounds_toArray, List.set_cons_zero, List.set_cons_succ]
        refine wpAnyH_take (i := 19) (oi := ⟨some 142, _, _, _, _, _⟩) (v := ?_) rfl (by kernel_rfl) (by kernel_rfl) (by kernel_rfl) (fun _ _ _ h => h) (Or.inl ⟨by rfl, ?_⟩) hH1 ?_
        rotate_left
        · intro w hSw
          try dsimp only at hSw
          go_simp
          try with_reducible rfl
        try simp only [Act.put, List.setIfInBounds_toArray, List.set_cons_zero, List.set_cons_succ]
        refine wpAnyH_take (i := 20) (oi := ⟨some 143, _, _, _, _, _⟩) (v := undef) rfl (by kernel_rfl) (by kernel_rfl) (by kernel_rfl) (fun _ _ _ h => h) (Or.inr ⟨by rfl, rfl⟩) hH1 ?_
        try simp only [Act.put, List.setIfInBounds_toArray, List.set_cons_zero, List.set_cons_succ]
        refine wpAnyH_take (i := 21) (oi := ⟨some 144, _, _, _, _, _⟩) (v := undef) rfl (by kernel_rfl) (by kernel_rfl) (by kernel_rfl) (fun _ _ _ h => h) (Or.inr ⟨by rfl, rfl⟩) hH1 ?_
        try simp only [Act.put, List.setIfInBounds_toArray, List.set_cons_zero, List.set_cons_succ]
        refine wpAnyH_take (i := 22) (oi := ⟨some 145, _, _, _, _, _⟩) (v := undef) rfl (by kernel_rfl) (by kernel_rfl) (by kernel_rfl) (fun _ _ _ h => h) (Or.inr ⟨by rfl, rfl⟩) hH1 ?_
        try simp only [Act.put, List.setIfInBounds_toArray, List.set_cons_zero, List.set_cons_succ]
        refine wpAnyH_take (i := 23) (oi := ⟨some 146, _, _, _, _, _⟩) (v := undef) rfl (by kernel_rfl) (by kernel_rfl) (by kernel_rfl) (fun _ _ _ h => h) (Or.inr ⟨by rfl, rfl⟩) hH1 ?_
        try simp only [Act.put, List.setIfInBounds_toArray, List.set_cons_zero, List.set_cons_succ]
        refine wpAnyH_take (i := 24) (oi := ⟨some 147, _, _, _, _, _⟩) (v := undef) rfl (by kernel_rfl) (by kernel_rfl) (by kernel_rfl) (fun _ _ _ h => h) (Or.inr ⟨by rfl, rfl⟩) hH1 ?_
        try simp only [Act.put, List.setIfInBounds_toArray, List.set_cons_zero, List.set_cons_succ]
        refine wpAnyH_take (i := 25) (oi := ⟨some 148, _, _, _, _, _⟩) (v := undef) rfl (by kernel_rfl) (by kernel_rfl) (by kernel_rfl) (fun _ _ _ h => h) (Or.inr ⟨by rfl, rfl⟩) hH1 ?_
        try simp only [Act.put, List.setIfInBounds_toArray, List.set_cons_zero, List.set_cons_succ]
        refine wpAnyH_take (i := 26) (oi := ⟨some 149, _, _, _, _, _⟩) (v := undef) rfl (by kernel_rfl) (by kernel_rfl) (by kernel_rfl) (fun _ _ _ h => h) (Or.inr ⟨by rfl, rfl⟩) hH1 ?_
        try simp only [Act.put, List.setIfInBounds_toArray, List.set_cons_zero, List.set_cons_succ]
        refine wpAnyH_take (i := 27) (oi := ⟨some 150, _, _, _, _, _⟩) (v := ?_) rfl (by kernel_rfl) (by kernel_rfl) (by kernel_rfl) (fun _ _ _ h => h) (Or.inl ⟨by rfl, ?_⟩) hH1 ?_
        rotate_left
        · intro w hSw
          try dsimp only at hSw
          go_simp
          try with_reducible rfl
        try simp only [Act.put, List.setIfInBounds_toArray, List.set_cons_zero, List.set_cons_succ]
        refine wpAnyH_take (i := 28) (oi := ⟨some 151, _, _, _, _, _⟩) (v := ?_) rfl (by kernel_rfl) (by kernel_rfl) (by kernel_rfl) (fun _ _ _ h => h) (Or.inl ⟨by rfl, ?_⟩) hH1 ?_
        rotate_left
        · intro w hSw
          try dsimp only at hSw
          go_simp
          try with_reducible rfl
        try simp only [Act.put, List.setIfInBounds_toArray, List.set_cons_zero, List.set_cons_succ]
        refine wpAnyH_take (i := 29) (oi := ⟨some 152, _, _, _, _, _⟩) (v := ?_) rfl (by kernel_rfl) (by kernel_rfl) (by kernel_rfl) (fun _ _ _ h => h) (Or.inl ⟨by rfl, ?_⟩) hH1 ?_
        rotate_left
        · intro w hSw
          try dsimp only at hSw
          go_simp
          try with_reducible rfl
        try simp only [Act.put, List.setIfInBounds_toArray, List.set_cons_zero, List.set_cons_succ]
        refine wpAnyH_take (i := 30) (oi := ⟨some 6, _, _, _, _, _⟩) (v := ?_) rfl (by kernel_rfl) (by kernel_rfl) (by kernel_rfl) (fun _ _ _ h => h) (Or.inl ⟨by rfl, ?_⟩) hH1 ?_
        rotate_left
        · intro w hSw
          try dsimp only at hSw
          go_simp
          try with_reducible rfl
        try simp only [Act.put, List.setIfInBounds_toArray, List.set_cons_zero, List.set_cons_succ]
        refine wpAnyH_done (by kernel_rfl) ?_ _
        go_wp2_with fail
        go_ret
        exact ⟨rfl, M10.out.low⟩
end Go.Proofs.YtcbkffpmclainaaDoor
