/- The leaf layer: twin, Get. -/
import Derived.Test.YtlkbapcienjdcaaDoorLGet
namespace Go.Proofs.YtlkbapcienjdcaaDoor
open Go.RowKit
attribute [local go_sem ↓] Go.wp_at_zero Go.wp_at_succ
section
variable {W : World} {B p bm m lim base c : Nat} {v : Value} {A : Option Addr} {R : Option Mat} {L : List Lz} {i : Int}
theorem clone_z (h0 : 0 < m) (h7 : m ≤ 7) (hz : ZRes W base m R (zoneV ((m : Int) - 1) A (rlen m R) c)) : Calls Tryd.prog 55 #[.slice A (rlen m R) c] W (fun e w' => ∃ A' c', e = .returned (.slice A' (rlen m R) c') ∧ ZRes w' W.heap.size m R (zoneV ((m : Int) - 1) A' (rlen m R) c') ∧ Below W.heap.size W w') := by
  cases R with
  | none =>
    obtain ⟨rfl, rfl⟩ : A = none ∧ c = 0 := by
      have h' : zoneV ((m : Int) - 1) A 0 c = zoneV ((m : Int) - 1) none 0 0 := hz
      simp [zoneV] at h'
      exact h'
    exact (clone_nil W).mono fun e w' ⟨h1, h2⟩ => ⟨none, 0, h1, rfl, h2 ▸ Below.refl _ _⟩
  | some C =>
    obtain ⟨g, rfl, hC, ho⟩ := zres_some hz
    have hmm := Nat.mul_le_mul h7 h7
    refine (clone_ints ho (by omega) (by intro u hu; obtain ⟨x, -, rfl⟩ := List.mem_map.1 hu; rfl)).mono fun e w' ⟨v, h1, h2, h3⟩ => ?_
    obtain ⟨g2, c2, rfl⟩ := slice_own h2 (Nat.mul_pos h0 h0)
    exact ⟨_, c2, h1, ⟨hC, g2, c2, rfl, h2⟩, h3⟩
/-- While twin goes: both boxes. -/
structure TB (W0 : World) (m : Nat) (R : Option Mat) (A : Option Addr) (l c : Nat) (W : World) : Prop where
  low : Below W0.heap.size W0 W
  z : Duo W W0.heap.size 39 (.int .i64 ((m : Int) - 1)) (.slice A l c)
  r : Duo W (W0.heap.size + 1) 39 (.int .i64 0) (.slice none 0 0)
theorem TB.below {W0 W1 : World} {l : Nat} (h : TB W0 m R A l c W) (hb : Below W.heap.size W W1) : TB W0 m R A l c W1 := ⟨h.low.trans (hb.mono h.low.size), h.z.below hb, h.r.below hb⟩
theorem TB.s {W0 : World} {l : Nat} (h : TB W0 m R A l c W) : W.cell? ⟨W0.heap.size, 0, none⟩ = some (.int .i64 ((m : Int) - 1)) ∧ W.cell? ⟨W0.heap.size, 1, none⟩ = some (.slice A l c) := ⟨h.z.cell0, h.z.cell1⟩
set_option maxRecDepth 100000 in
set_option maxHeartbeats 3200000 in
theorem twin_any (h0 : 0 < m) (h7 : m ≤ 7) (hz : ZRes W base m R (zoneV ((m : Int) - 1) A (rlen m R) c)) : Calls Tryd.prog 30 #[zoneV ((m : Int) - 1) A (rlen m R) c] W (RetC W m R) := by
  have HCl : Hid (∀ W', Below W.heap.size W W' → Calls Tryd.prog 55 #[.slice A (rlen m R) c] W' (fun e w' => ∃ A' c', e = .returned (.slice A' (rlen m R) c') ∧ ZRes w' W'.heap.size m R (zoneV ((m : Int) - 1) A' (rlen m R) c') ∧ Below W'.heap.size W' w')) := Lib.hid fun W' hb => clone_z h0 h7 (hz.below hb)
  have hX : TB W m R A (rlen m R) c ((W.alloc (.cells #[.int .i64 ((m : Int) - 1), .slice A (rlen m R) c] 39)).alloc (.cells #[.int .i64 0, .slice none 0 0] 39)) := by
    have k1 := Duo.new (W.alloc (.cells #[.int .i64 ((m : Int) - 1), .slice A (rlen m R) c] 39)) 39 (.int .i64 0) (.slice none 0 0)
    rw [World.size_alloc] at k1
    exact ⟨((Below.refl _ W).alloc (Nat.le_refl _) _).alloc (by simp) _, (Duo.new W _ _ _).alloc _, k1⟩
  have X0 := Lib.hid (hX.below (Below.refl _ _).drew)
  clear hz hX h0 h7
  go_enter Tryd.func30, Tryd.ntmps30
  go_wp2_with fail
  refine wp_region_held_drew (S := fun w' => w'.cell? ⟨W.heap.size, 0, none⟩ = some (.int .i64 ((m : Int) - 1)) ∧ w'.cell? ⟨W.heap.size, 1, none⟩ = some (.slice A (rlen m R) c)) (by kernel_rfl) X0.out.s (fun k0 => ?_)
  refine wpAnyH_take (i := 0) (oi := ⟨some 3, _, _, _, _, _⟩) (v := ?_) rfl (by kernel_rfl) (by kernel_rfl) (by kernel_rfl) (fun _ _ _ h => h) (Or.inl ⟨by rfl, ?_⟩) k0 ?_
  rotate_left
  · intro w hSw
    try dsimp only at hSw
    go_simp
    try with_reducible rfl
  try simp only [Act.put, List.setIfInBounds_toArray, List.set_cons_zero, List.set_cons_succ]
  refine wpAnyH_take (i := 1) (oi := ⟨some 4, _, _, _, _, _⟩) (v := ?_) rfl (by kernel_rfl) (by kernel_rfl) (by kernel_rfl) (fun _ _ _ h => h) (Or.inl ⟨by rfl, ?_⟩) k0 ?_
  rotate_left
  · intro w hSw
    try dsimp only at hSw
    go_simp
    try with_reducible rfl
  try simp only [Act.put, List.setIfInBounds_toArray, List.set_cons_zero, List.set_cons_succ]
  refine wpAnyH_take (i := 2) (oi := ⟨some 5, _, _, _, _, _⟩) (v := ?_) rfl (by kernel_rfl) (by kernel_rfl) (by kernel_rfl) (fun _ _ _ h => h) (Or.inl ⟨by rfl, ?_⟩) k0 ?_
  rotate_left
  · intro w hSw
    try dsimp only at hSw
    go_simp
    try with_reducible rfl
  try simp only [Act.put, List.setIfInBounds_toArray, List.set_cons_zero, List.set_cons_succ]
  refine wpAnyH_take (i := 3) (oi := ⟨some 6, _, _, _, _, _⟩) (v := ?_) rfl (by kernel_rfl) (by kernel_rfl) (by kernel_rfl) (fun _ _ _ h => h) (Or.inl ⟨by rfl, ?_⟩) k0 ?_
  rotate_left
  · intro w hSw
    try dsimp only at hSw
    go_simp
    try with_reducible rfl
  try simp only [Act.put, List.setIfInBounds_toArray, List.set_cons_zero, List.set_cons_succ]
  refine wpAnyH_ready (rs := [4]) (by kernel_rfl) (by simp) ?_
  refine (AllReadyH.cons (o := ⟨some 7, _, _, _, _, _⟩) rfl (fun K hK => ?_) AllReadyH.nil)
  go_simp
  refine (HCl.out _ X0.out.low).mono ?_
  rintro e w4 ⟨A4, c4, rfl, hz4, hb4⟩
  have X4 := Lib.hid (X0.out.below hb4)
  have Z4 := Lib.hid (hz4.lower X0.out.low.size)
  clear hb4 hz4
  go_wp2_with fail
  refine hK.out _ _ (X4.out.s) (fun k1 => ?_)
  clear hK K
  try simp only [Act.put, List.setIfInBounds_toArray, List.set_cons_zero, List.set_cons_succ]
  refine wpAnyH_take (i := 5) (oi := ⟨some 8, _, _, _, _, _⟩) (v := ?_) rfl (by kernel_rfl) (by kernel_rfl) (by kernel_rfl) (fun _ _ _ h => h) (Or.inl ⟨by rfl, ?_⟩) k1 ?_
  rotate_left
  · intro w hSw
    try dsimp only at hSw
    go_simp
    try with_reducible rfl
  try simp only [Act.put, List.setIfInBounds_toArray, List.set_cons_zero, List.set_cons_succ]
  refine wpAnyH_ready (rs := [6]) (by kernel_rfl) (by simp) ?_
  refine (AllReadyH.cons (o := ⟨none, _, _, _, _, _⟩) rfl (fun K hK => ?_) AllReadyH.nil)
  have y0 := X4.out.r.cell0
  have y1 := X4.out.r.cell1
  have y2 := X4.out.r.frozen0
  have y3 := X4.out.r.frozen1
  have y4 := X4.out.r.lt
  have hn : W.heap.size ≠ W.heap.size + 1 := by omega
  have d := (X4.out.z.other (a := ⟨W.heap.size + 1, 0, none⟩) hn (.int .i64 ((m : Int) - 1))).other (a := ⟨W.heap.size + 1, 1, none⟩) hn (.slice A4 (rlen m R) c4)
  have D := Lib.hid d
  clear d hn
  go_simp
  refine hK.out _ _ (⟨D.out.cell0, D.out.cell1⟩) (fun k2 => ?_)
  clear hK K
  try simp only [Act.put, List.setIfInBounds_toArray, List.set_cons_zero, List.set_cons_succ]
  clear y0 y1 y2 y3 y4
  refine wpAnyH_done (by kernel_rfl) ?_ _
  go_wp2_with fail
  exact post_cell (rb := W.heap.size + 1) Tryd.results30 rfl rfl ((X4.out.r.set0 _).set1 _) ⟨A4, c4, rfl, (Z4.out.setBox X4.out.r _).setBox (X4.out.r.set0 _) _, (X4.out.low.setCell (p := ⟨W.heap.size + 1, 0, none⟩) (Nat.le_succ _) _).setCell (p := ⟨W.heap.size + 1, 1, none⟩) (Nat.le_succ _) _⟩
set_option maxRecDepth 100000 in
set_option maxHeartbeats 3200000 in
theorem get_any' (h0 : 0 < m) (h7 : m ≤ 7) (h : LTab B p bm v m lim L L W) (i : Int) : Calls Tryd.prog 13 #[.pointer (some ⟨p, 0, none⟩), .int .i64 i] W (RetC W m (if hasN L.length i = true then (L[i.toNat]?.map Prod.fst).getD none else none)) := by
  have HB := Lib.hid (zboxed W (.cells #[.int .i64 0, .slice none 0 0] 39))
  have HX := Lib.hid (Duo.new W 39 (.int .i64 0) (.slice none 0 0))
  have HHas : Hid (∀ W', Below W.heap.size W W' → Calls Tryd.prog 29 #[.pointer (some ⟨p, 0, none⟩), .int .i64 i] W' (fun e w' => e = .returned (.bool (hasN L.length i)) ∧ W' = w')) := Lib.hid fun W' hb => hasL_any (h.below hb) i
  cases hh : hasN L.length i
  · rw [if_neg (by decide)]
    rw [hh] at HHas
    have HBo : Hid (∀ W', Calls Tryd.prog 20 #[.int .i64 ((m : Int) - 1)] W' (RetC W' m none)) := Lib.hid fun W' => (bottom_any ((m : Int) - 1) W').mono fun e w' ⟨h1, h2⟩ => by
      have e1 : botN ((m : Int) - 1) = (m : Int) - 1 := by
        unfold botN
        rw [if_pos ((mayB_iff _).2 (by omega))]
      rw [e1] at h1
      exact ⟨none, 0, h1, rfl, h2⟩
    have a0 := (h.below HB.out).tb.cell 0
    have a1 := (h.below HB.out).tb.lt
    have HL := Lib.hid h
    have HH := Lib.hid hh
    clear h h0 h7 hh
    go_enter Tryd.func13, Tryd.ntmps13
    go_wp2_with (first
      | (go_at_call 29; ((with_reducible refine (HHas.out _ HB.out).mono ?_); rintro e w1 ⟨rfl, rfl⟩))
      | (go_at_call 20; ((with_reducible refine (HBo.out _).mono ?_); rintro e w2 ⟨A2, c2, rfl, hz2, hb2⟩); have x := HX.out.below hb2; have x0 := x.cell0; have x1 := x.cell1; have x2 := x.frozen0; have x3 := x.frozen1; have x4 := x.lt; have HE := Lib.hid (HB.out.trans (hb2.mono HB.out.size)); have HY := Lib.hid x; have Z2 := Lib.hid hz2; clear x hb2 hz2))
    refine post_cell (rb := W.heap.size) Tryd.results13 rfl rfl ((HY.out.set0 _).set1 _) ⟨A2, c2, rfl, ((Z2.out.lower (Nat.le_trans (Nat.le_succ _) (by simp))).setBox HY.out _).setBox (HY.out.set0 _) _, (HE.out.setCell (p := ⟨W.heap.size, 0, none⟩) (Nat.le_refl _) _).setCell (p := ⟨W.heap.size, 1, none⟩) (Nat.le_refl _) _⟩
  · rw [if_pos rfl]
    rw [hh] at HHas
    unfold hasN at hh
    simp only [Bool.and_eq_true, decide_eq_true_eq] at hh
    obtain ⟨k, rfl⟩ : ∃ k : Nat, i = (k : Int) := ⟨i.toNat, by omega⟩
    have hk : k < L.length := by omega
    have hx : L[k]? = some L[k] := List.getElem?_eq_getElem hk
    rw [Int.toNat_natCast, hx]
    generalize L[k] = x at *
    obtain ⟨R, A, c⟩ := x
    show Calls _ _ _ _ (RetC W m R)
    have hb := zboxed W (.cells #[.int .i64 0, .slice none 0 0] 39)
    have hl := h.below hb
    obtain ⟨g, cv, rfl⟩ := slice_own h.row (by omega)
    obtain ⟨q0, q1⟩ := zcells_at (m := m) hx
    have hlen := zcells_len m L
    have r0 := (hl.row.cellAt (k * 2) (by omega)).trans q0
    have r1 := (hl.row.cellAt (k * 2 + 1) (by omega)).trans q1
    have a0 := hl.tb.cell 2
    have a1 := hl.tb.lt
    have HTw : Hid (∀ W', Below W.heap.size W W' → Calls Tryd.prog 30 #[zoneV ((m : Int) - 1) A (rlen m R) c] W' (RetC W' m R)) := Lib.hid fun W' hb' => twin_any h0 h7 ((h.zs k _ hx).below hb')
    have hk' : (k : Int) < (L.length : Int) := by omega
    clear h hl hh h0 h7 hb hx q0 q1 hlen hk
    go_enter Tryd.func13, Tryd.ntmps13
    go_wp2_with (first
      | (go_at_call 29; ((with_reducible refine (HHas.out _ HB.out).mono ?_); rintro e w1 ⟨rfl, rfl⟩))
      | (go_at_call 30; ((with_reducible refine (HTw.out _ HB.out).mono ?_); rintro e w2 ⟨A2, c2, rfl, hz2, hb2⟩); have x := HX.out.below hb2; have x0 := x.cell0; have x1 := x.cell1; have x2 := x.frozen0; have x3 := x.frozen1; have x4 := x.lt; have HE := Lib.hid (HB.out.trans (hb2.mono HB.out.size)); have HY := Lib.hid x; have Z2 := Lib.hid hz2; clear x hb2 hz2))
    refine post_cell (rb := W.heap.size) Tryd.results13 rfl rfl ((HY.out.set0 _).set1 _) ⟨A2, c2, rfl, ((Z2.out.lower (Nat.le_trans (Nat.le_succ _) (by simp))).setBox HY.out _).setBox (HY.out.set0 _) _, (HE.out.setCell (p := ⟨W.heap.size, 0, none⟩) (Nat.le_refl _) _).setCell (p := ⟨W.heap.size, 1, none⟩) (Nat.le_refl _) _⟩
end
end Go.Proofs.YtlkbapcienjdcaaDoor
