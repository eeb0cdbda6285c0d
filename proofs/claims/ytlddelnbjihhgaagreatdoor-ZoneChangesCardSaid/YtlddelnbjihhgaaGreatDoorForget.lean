/- The contract of Forget: any zone, any variable. -/
import Derived.Test.YtlddelnbjihhgaaGreatDoorMovesMath
import Derived.Test.YtlddelnbjihhgaaGreatDoorKnown
namespace Go.Proofs.YtlddelnbjihhgaaGreatDoor
open Go.RowKit
attribute [local go_sem ↓] Go.wp_at_zero Go.wp_at_succ

/-- The box of the zone that was closed, of the variable's number, and the result's. -/
def Fg (w W : World) (a a' i b b' : Value) : Prop := Duo W w.heap.size 32 a a' ∧ Boxed W (w.heap.size + 1) 3 i ∧ Duo W (w.heap.size + 1 + 1) 32 b b' ∧ Below w.heap.size w W
theorem Fg.below {w W W1 : World} {a a' i b b' : Value} (h : Fg w W a a' i b b') (hb : Below W.heap.size W W1) : Fg w W1 a a' i b b' := ⟨h.1.below hb, boxed_below h.2.1 hb, h.2.2.1.below hb, h.2.2.2.trans (hb.mono h.2.2.2.size)⟩
theorem Fg.put {w W : World} {a a' i b b' : Value} (h : Fg w W a a' i b b') (x x' : Value) : Fg w ((W.setCell ⟨w.heap.size, 0, none⟩ x).setCell ⟨w.heap.size, 1, none⟩ x') x x' i b b' :=
  ⟨(h.1.set0 x).set1 x', boxed_other (boxed_other h.2.1 (by simp) _) (by simp) _, (h.2.2.1.other (by simp <;> omega) _).other (by simp <;> omega) _, (h.2.2.2.setCell (p := ⟨w.heap.size, 0, none⟩) (by simp) _).setCell (p := ⟨w.heap.size, 1, none⟩) (by simp) _⟩
theorem fg_new (w : World) (a a' i b b' : Value) : Fg w (((w.alloc (.cells #[a, a'] 32)).alloc (.cells #[i] 3)).alloc (.cells #[b, b'] 32)) a a' i b b' := by
  have h1 := Boxed.new (w.alloc (.cells #[a, a'] 32)) 3 i
  have h2 := Duo.new ((w.alloc (.cells #[a, a'] 32)).alloc (.cells #[i] 3)) 32 b b'
  simp only [World.size_alloc] at h1 h2
  exact ⟨((Duo.new w _ _ _).alloc _).alloc _, h1.alloc _, h2, (((Below.refl _ w).alloc (Nat.le_refl _) _).alloc (by simp) _).alloc (by simp <;> omega) _⟩

set_option maxRecDepth 100000 in
set_option maxHeartbeats 1600000 in
theorem forget_fn {m r c i0 : Nat} (hm7 : m ≤ 7) (hr : r < m) (hc : c < m) {p q g c1 base : Nat} {C : Mat} {W : World} (hi : Boxed W q 3 (.int .i64 (i0 : Int))) (h1 : Duo W p 32 (.int .i64 ((m : Int) - 1)) (.slice (some ⟨g, 0, none⟩) (m * m) c1))
    (o1 : W.ownsRow base 3 1 (.slice (some ⟨g, 0, none⟩) (m * m) c1) (m * m) ((flatL m C).map (Value.int .i64))) :
    Calls Tryz.prog 39 #[.int .i64 (r : Int), .int .i64 (c : Int), .pointer (some ⟨q, 0, none⟩), .pointer (some ⟨p, 0, none⟩)] W (ZRetInt (fgt C i0 r c) W) := by
  have x0 := hi.cell
  have x1 := hi.lt
  have x2 := h1.cell0
  have x3 := h1.cell1
  have x4 := h1.lt
  by_cases e1 : r = i0
  · have b1 : ((r : Int) == (i0 : Int)) = true := by simp; omega
    have b3 : (i0 : Int) = (r : Int) := by omega
    rw [show fgt C i0 r c = 4611686018427387904 from if_pos (Or.inl e1)]
    clear e1 b3
    go_enter Tryz.func39, Tryz.ntmps39
    go_wp2_with fail
    go_ret
    exact ⟨rfl, Below.refl _ _⟩
  · have b1 : ((r : Int) == (i0 : Int)) = false := by simp; omega
    by_cases e2 : c = i0
    · have b2 : ((c : Int) == (i0 : Int)) = true := by simp; omega
      rw [show fgt C i0 r c = 4611686018427387904 from if_pos (Or.inr e2)]
      clear e1 e2
      go_enter Tryz.func39, Tryz.ntmps39
      go_wp2_with fail
      go_ret
      exact ⟨rfl, Below.refl _ _⟩
    · have b2 : ((c : Int) == (i0 : Int)) = false := by simp; omega
      rw [show fgt C i0 r c = C r c from if_neg (by omega)]
      have HA := Lib.hid (at_own hm7 hr hc o1)
      obtain ⟨x, hx⟩ : ∃ x, C r c = x := ⟨_, rfl⟩
      rw [hx] at HA ⊢
      clear e1 e2 hx o1
      go_enter Tryz.func39, Tryz.ntmps39
      go_wp2_with (go_at_call 40; ((with_reducible refine HA.out.mono ?_); rintro e w1 ⟨rfl, hb1⟩))
      go_ret
      exact ⟨rfl, hb1⟩

def fgO (m : Nat) (R : Option Mat) (i : Int) : Option Mat :=
  match R with
  | none => none
  | some C => if namedB ((m : Int) - 1) i = true then setR m (fgt C i.toNat) else some C

set_option maxRecDepth 100000 in
set_option maxHeartbeats 1600000 in
theorem forget_none {w : World} {N : Int} {Az : Option Addr} {lz cz m : Nat} {i : Int}
    (K : ∀ W, Below w.heap.size w W → Calls Tryz.prog 34 #[zoneV N Az lz cz] W (RetC W m none)) :
    Calls Tryz.prog 8 #[zoneV N Az lz cz, .int .i64 i] w (RetC w m none) := by
  have HT := Lib.hid (fg_new w (.int .i64 N) (.slice Az lz cz) (.int .i64 i) (.int .i64 0) (.slice none 0 0))
  have HK := Lib.hid K
  have HL := Lib.hid HT.out.2.2.2
  clear K
  have e0 : rlen m (none : Option Mat) = 0 := rfl
  go_enter Tryz.func8, Tryz.ntmps8
  go_wp2_with (first
    | (go_at_call 34; ((with_reducible refine (HK.out _ HL.out).mono ?_); rintro e w1 ⟨A, c1, rfl, hz1, hb1⟩); have hF1 : Fg w w1 _ _ _ _ _ := Fg.below HT.out hb1; have y0 := hF1.1.cell0; have y1 := hF1.1.cell1; have y4 := hF1.1.frozen0; have y5 := hF1.1.frozen1)
    | (go_at_call 35; ((with_reducible refine (none_any _ _ _ _ _).mono ?_); rintro e w3 ⟨rfl, hb3⟩); have hF2 := (hF1.put (.int .i64 ((m : Int) - 1)) (.slice A 0 c1)).below hb3; have hZ2 := ((hz1.setCell (a := ⟨w.heap.size, 0, none⟩) (by simp <;> omega) (.int .i64 ((m : Int) - 1))).setCell (a := ⟨w.heap.size, 1, none⟩) (by simp <;> omega) (.slice A 0 c1)).below hb3; have p0 := hF2.1.cell0; have p1 := hF2.1.cell1; have p2 := hF2.2.2.1.cell0; have p3 := hF2.2.2.1.cell1; have p4 := hF2.2.2.1.frozen0; have p5 := hF2.2.2.1.frozen1))
  have hD := ((hF2.2.2.1.set0 (.int .i64 ((m : Int) - 1))).set1 (.slice A 0 c1))
  exact post_cell (rb := w.heap.size + 1 + 1) Tryz.results8 rfl rfl hD ⟨A, c1, rfl, ((hZ2.lower (by simp <;> omega)).setBox hF2.2.2.1 _).setBox (hF2.2.2.1.set0 _) _, (hF2.2.2.2.setCell (p := ⟨w.heap.size + 1 + 1, 0, none⟩) (by simp <;> omega) _).setCell (p := ⟨w.heap.size + 1 + 1, 1, none⟩) (by simp <;> omega) _⟩

set_option maxRecDepth 100000 in
set_option maxHeartbeats 1600000 in
theorem forget_out {w : World} {N : Int} {Az : Option Addr} {lz cz m : Nat} {i : Int} {C : Mat} (h0 : 0 < m) (k1 : namedB ((m : Int) - 1) i = false)
    (K : ∀ W, Below w.heap.size w W → Calls Tryz.prog 34 #[zoneV N Az lz cz] W (RetC W m (some C))) :
    Calls Tryz.prog 8 #[zoneV N Az lz cz, .int .i64 i] w (RetC w m (some C)) := by
  have HT := Lib.hid (fg_new w (.int .i64 N) (.slice Az lz cz) (.int .i64 i) (.int .i64 0) (.slice none 0 0))
  have HK := Lib.hid K
  have HL := Lib.hid HT.out.2.2.2
  clear K
  have e1 : rlen m (some C) = m * m := rfl
  have e2 := sq_pos h0
  go_enter Tryz.func8, Tryz.ntmps8
  go_wp2_with (first
    | (go_at_call 34; ((with_reducible refine (HK.out _ HL.out).mono ?_); rintro e w1 ⟨A, c1, rfl, hz1, hb1⟩); have hF1 : Fg w w1 _ _ _ _ _ := Fg.below HT.out hb1; have y0 := hF1.1.cell0; have y1 := hF1.1.cell1; have y4 := hF1.1.frozen0; have y5 := hF1.1.frozen1)
    | (go_at_call 35; ((with_reducible refine (none_any _ _ _ _ _).mono ?_); rintro e w3 ⟨rfl, hb3⟩); have hF2 := (hF1.put (.int .i64 ((m : Int) - 1)) (.slice A (m * m) c1)).below hb3; have hZ2 := ((hz1.setCell (a := ⟨w.heap.size, 0, none⟩) (by simp <;> omega) (.int .i64 ((m : Int) - 1))).setCell (a := ⟨w.heap.size, 1, none⟩) (by simp <;> omega) (.slice A (m * m) c1)).below hb3; have p0 := hF2.1.cell0; have p1 := hF2.1.cell1; have p2 := hF2.2.2.1.cell0; have p3 := hF2.2.2.1.cell1; have p4 := hF2.2.2.1.frozen0; have p5 := hF2.2.2.1.frozen1; have p6 := hF2.2.1.cell)
    | (go_at_call 36; ((with_reducible refine (named_any _ _ _ _ _ _).mono ?_); rintro e w4 ⟨rfl, hb4⟩); have hF3 := hF2.below hb4; have hZ3 := hZ2.below hb4; have q0 := hF3.1.cell0; have q1 := hF3.1.cell1; have q2 := hF3.2.2.1.cell0; have q3 := hF3.2.2.1.cell1; have q4 := hF3.2.2.1.frozen0; have q5 := hF3.2.2.1.frozen1))
  have hD := ((hF3.2.2.1.set0 (.int .i64 ((m : Int) - 1))).set1 (.slice A (m * m) c1))
  exact post_cell (rb := w.heap.size + 1 + 1) Tryz.results8 rfl rfl hD ⟨A, c1, rfl, ((hZ3.lower (by simp <;> omega)).setBox hF3.2.2.1 _).setBox (hF3.2.2.1.set0 _) _, (hF3.2.2.2.setCell (p := ⟨w.heap.size + 1 + 1, 0, none⟩) (by simp <;> omega) _).setCell (p := ⟨w.heap.size + 1 + 1, 1, none⟩) (by simp <;> omega) _⟩

set_option maxRecDepth 100000 in
set_option maxHeartbeats 3200000 in
theorem forget_in {w : World} {N : Int} {Az : Option Addr} {lz cz m : Nat} {i : Int} {C : Mat} (h0 : 0 < m) (h7 : m ≤ 7) (k1 : namedB ((m : Int) - 1) i = true)
    (K : ∀ W, Below w.heap.size w W → Calls Tryz.prog 34 #[zoneV N Az lz cz] W (RetC W m (some C))) :
    Calls Tryz.prog 8 #[zoneV N Az lz cz, .int .i64 i] w (RetC w m (setR m (fgt C i.toNat))) := by
  obtain ⟨i0, rfl⟩ : ∃ a : Nat, i = a := ⟨i.toNat, by simp [namedB] at k1; omega⟩
  rw [Int.toNat_natCast]
  have HT := Lib.hid (fg_new w (.int .i64 N) (.slice Az lz cz) (.int .i64 (i0 : Int)) (.int .i64 0) (.slice none 0 0))
  have HK := Lib.hid K
  have HL := Lib.hid HT.out.2.2.2
  clear K
  have e1 : rlen m (some C) = m * m := rfl
  have e2 := sq_pos h0
  go_enter Tryz.func8, Tryz.ntmps8
  go_wp2_with (first
    | (go_at_call 34; ((with_reducible refine (HK.out _ HL.out).mono ?_); rintro e w1 ⟨A, c1, rfl, hz1, hb1⟩); have hF1 : Fg w w1 _ _ _ _ _ := Fg.below HT.out hb1; have y0 := hF1.1.cell0; have y1 := hF1.1.cell1; have y4 := hF1.1.frozen0; have y5 := hF1.1.frozen1)
    | (go_at_call 35; ((with_reducible refine (none_any _ _ _ _ _).mono ?_); rintro e w3 ⟨rfl, hb3⟩); have hF2 := (hF1.put (.int .i64 ((m : Int) - 1)) (.slice A (m * m) c1)).below hb3; have hZ2 := ((hz1.setCell (a := ⟨w.heap.size, 0, none⟩) (by simp <;> omega) (.int .i64 ((m : Int) - 1))).setCell (a := ⟨w.heap.size, 1, none⟩) (by simp <;> omega) (.slice A (m * m) c1)).below hb3; have p0 := hF2.1.cell0; have p1 := hF2.1.cell1; have p2 := hF2.2.2.1.cell0; have p3 := hF2.2.2.1.cell1; have p4 := hF2.2.2.1.frozen0; have p5 := hF2.2.2.1.frozen1; have p6 := hF2.2.1.cell)
    | (go_at_call 36; ((with_reducible refine (named_any _ _ _ _ _ _).mono ?_); rintro e w4 ⟨rfl, hb4⟩); have HF3 := Lib.hid (hF2.below hb4); have hZ3 := hZ2.below hb4; have q0 := HF3.out.1.cell0; have q1 := HF3.out.1.cell1; clear p0 p1 p2 p3 p4 p5 p6 y0 y1 y4 y5))
  have k0 := q0
  clear q0
  obtain ⟨g1, rfl, hC, o1⟩ := zres_some hZ3
  have O1 := Lib.hid o1
  have HC := Lib.hid hC
  clear o1 hC hZ2 hZ3 hz1 hF1 hF2 hb1 hb3 hb4
  refine (fill_any 39 #[.pointer (some ⟨w.heap.size + 1, 0, none⟩), .pointer (some ⟨w.heap.size, 0, none⟩)] m h7 h0 (fgt C i0) _ (enters_of Tryz.func39 (by kernel_rfl) rfl) (fun r c W hr hc hbW => ?_)).mono ?_
  · have hF5 := HF3.out.below hbW
    exact forget_fn h7 hr hc hF5.2.1 hF5.1 (own_kept_below O1.out hbW)
  rintro e w5 ⟨v5, rfl, ho5, hb5⟩
  obtain ⟨g5, c5, rfl⟩ := own_slice ho5 (Nat.mul_pos h0 h0)
  have hF5 := HF3.out.below hb5
  have hg5 := (ho5.lt g5 rfl).1
  have hs4 := HF3.out.2.2.1.lt
  have ho5' := own_lower ho5 HF3.out.2.2.2.size
  have HF5 := Lib.hid hF5
  have HO5 := Lib.hid ho5'
  clear ho5 ho5' hb5 hF5
  go_wp2_with fail
  refine (settle_any m h7 h0 (fgt C i0) g5 c5 _ w5 (fun a b ha hb => by have h1 := HC.out.bd ha hb; unfold fgt; split <;> omega) HO5.out).mono ?_
  rintro e w6 (⟨ha, rfl, ho6, hg6⟩ | ⟨hna, rfl, hg6⟩)
  · have hD3 := HF5.out.2.2.1.kept hg6 (by simp <;> omega)
    have hB3 := HF5.out.2.2.2.grown hg6 HF5.out.2.2.2.size (fun r e => by cases e; omega)
    have d0 := hD3.cell0
    have d1 := hD3.cell1
    have f0 := hD3.frozen0
    have f1 := hD3.frozen1
    have HO6 := Lib.hid ho6
    have HB3 := Lib.hid hB3
    clear ho6 hB3 hg6
    go_wp2_with fail
    refine post_cell (rb := w.heap.size + 1 + 1) Tryz.results8 rfl rfl ((hD3.set0 _).set1 _) ?_
    rw [setR_yes ha]
    refine ⟨_, c5, rfl, ⟨lev_closed ha, g5, c5, rfl, ?_⟩, (HB3.out.setCell (p := ⟨w.heap.size + 1 + 1, 0, none⟩) (by simp <;> omega) _).setCell (p := ⟨w.heap.size + 1 + 1, 1, none⟩) (by simp <;> omega) _⟩
    exact (HO6.out.kept (duo_grown_setCell _ _ _) (.inr (by simp [Value.ownBlock]; omega))).kept (duo_grown_setCell _ _ _) (.inr (by simp [Value.ownBlock]; omega))
  · have hD3 := HF5.out.2.2.1.kept hg6 (by simp <;> omega)
    have hB3 := HF5.out.2.2.2.grown hg6 HF5.out.2.2.2.size (fun r e => by cases e; omega)
    have d0 := hD3.cell0
    have d1 := hD3.cell1
    have f0 := hD3.frozen0
    have f1 := hD3.frozen1
    have HB3 := Lib.hid hB3
    clear hB3 hg6
    go_wp2_with fail
    refine post_cell (rb := w.heap.size + 1 + 1) Tryz.results8 rfl rfl ((hD3.set0 _).set1 _) ?_
    rw [setR_no hna]
    exact ⟨none, 0, rfl, rfl, (HB3.out.setCell (p := ⟨w.heap.size + 1 + 1, 0, none⟩) (by simp <;> omega) _).setCell (p := ⟨w.heap.size + 1 + 1, 1, none⟩) (by simp <;> omega) _⟩

theorem forget_any {w : World} {N : Int} {Az : Option Addr} {lz cz m : Nat} {R : Option Mat} {i : Int} (h0 : 0 < m) (h7 : m ≤ 7)
    (K : ∀ W, Below w.heap.size w W → Calls Tryz.prog 34 #[zoneV N Az lz cz] W (RetC W m R)) :
    Calls Tryz.prog 8 #[zoneV N Az lz cz, .int .i64 i] w (RetC w m (fgO m R i)) := by
  cases R with
  | none => exact forget_none K
  | some C =>
    unfold fgO
    cases k1 : namedB ((m : Int) - 1) i
    · exact forget_out h0 k1 K
    · exact forget_in h0 h7 k1 K
end Go.Proofs.YtlddelnbjihhgaaGreatDoor
