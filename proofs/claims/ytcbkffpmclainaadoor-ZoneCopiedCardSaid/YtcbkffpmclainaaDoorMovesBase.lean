/- Put together of: MovesST, MovesNums, MovesOut. -/
import Derived.Test.YtcbkffpmclainaaDoorSet
import Derived.Test.YtcbkffpmclainaaDoorPut
import Derived.Test.YtcbkffpmclainaaDoorSpRefBase
import Derived.Test.YtcbkffpmclainaaDoorZAlive
import Derived.Test.YtcbkffpmclainaaDoorRClean
/- ZoneMoves, ZoneCopied: what stands while they go. -/
namespace Go.Proofs.YtcbkffpmclainaaDoor
open Go.RowKit
attribute [local go_sem ↓] Go.wp_at_zero Go.wp_at_succ

theorem field_n (N : Int) (A : Option Addr) (l c : Nat) (W : World) : Sem.run Tryd.prog (Instr.field 24 (zoneV N A l c) 0) W = Result.ok (.int .i64 N) W := by kernel_rfl
/-- The box of the change. -/
def Cb (W : World) (B : Nat) (i j c l h : Int) : Prop := W.heap[B]? = some (.cells #[.int .i64 i, .int .i64 j, .int .i64 c, .int .i64 l, .int .i64 h] 47 (0, 0))
theorem Cb.lt {W : World} {B : Nat} {i j c l h : Int} (x : Cb W B i j c l h) : B < W.heap.size := (Array.getElem?_eq_some_iff.1 x).1
theorem Cb.below {W W' : World} {B : Nat} {i j c l h : Int} (x : Cb W B i j c l h) (hb : Below W.heap.size W W') : Cb W' B i j c l h := (hb.block B x.lt).trans x
theorem Cb.cells {W : World} {B : Nat} {i j c l h : Int} (x : Cb W B i j c l h) : W.cell? ⟨B, 0, none⟩ = some (.int .i64 i) ∧ W.cell? ⟨B, 1, none⟩ = some (.int .i64 j) ∧ W.cell? ⟨B, 2, none⟩ = some (.int .i64 c) ∧ W.cell? ⟨B, 3, none⟩ = some (.int .i64 l) ∧ W.cell? ⟨B, 4, none⟩ = some (.int .i64 h) := by
  refine ⟨?_, ?_, ?_, ?_, ?_⟩ <;> simp [World.cell?, show W.heap[B]? = _ from x]
theorem Cb.new (W : World) (i j c l h : Int) : Cb (W.alloc (.cells #[.int .i64 i, .int .i64 j, .int .i64 c, .int .i64 l, .int .i64 h] 47)) W.heap.size i j c l h := World.alloc_heap_new W _
/-- Both boxes. -/
structure MV (w : World) (N : Int) (A : Option Addr) (ml cap : Nat) (I J C L H : Int) (W : World) : Prop where
  low : Below w.heap.size w W
  zb : Duo W w.heap.size 24 (.int .i64 N) (.slice A ml cap)
  cb : Cb W (w.heap.size + 1) I J C L H
section
variable {w W W1 : World} {N : Int} {A : Option Addr} {ml cap : Nat} {I J C L H : Int}
theorem MV.below (h : MV w N A ml cap I J C L H W) (hb : Below W.heap.size W W1) : MV w N A ml cap I J C L H W1 := ⟨h.low.trans (hb.mono h.low.size), h.zb.below hb, h.cb.below hb⟩
theorem mv_new (w : World) (N : Int) (A : Option Addr) (ml cap : Nat) (I J C L H : Int) : MV w N A ml cap I J C L H ((w.alloc (.cells #[.int .i64 N, .slice A ml cap] 24)).alloc (.cells #[.int .i64 I, .int .i64 J, .int .i64 C, .int .i64 L, .int .i64 H] 47)) := by
  have h1 := Cb.new (w.alloc (.cells #[.int .i64 N, .slice A ml cap] 24)) I J C L H
  simp only [World.size_alloc] at h1
  exact ⟨((Below.refl _ w).alloc (Nat.le_refl _) _).alloc (by simp) _, (Duo.new w _ _ _).alloc _, h1⟩
/-- What is loaded. -/
theorem MV.s (h : MV w N A ml cap I J C L H W) : (W.cell? ⟨w.heap.size, 0, none⟩ = some (.int .i64 N) ∧ W.cell? ⟨w.heap.size, 1, none⟩ = some (.slice A ml cap)) ∧ W.cell? ⟨w.heap.size + 1, 0, none⟩ = some (.int .i64 I) ∧ W.cell? ⟨w.heap.size + 1, 1, none⟩ = some (.int .i64 J) ∧ W.cell? ⟨w.heap.size + 1, 2, none⟩ = some (.int .i64 C) ∧ W.cell? ⟨w.heap.size + 1, 3, none⟩ = some (.int .i64 L) ∧ W.cell? ⟨w.heap.size + 1, 4, none⟩ = some (.int .i64 H) := ⟨⟨h.zb.cell0, h.zb.cell1⟩, h.cb.cells⟩
theorem MV.sz (h : MV w N A ml cap I J C L H W) : w.heap.size < W.heap.size ∧ w.heap.size + 1 < W.heap.size := ⟨h.zb.lt, h.cb.lt⟩
end
/-- Has, of what was made. -/
theorem has_res {W : World} {m base c n cp b off : Nat} {A : Option Addr} {f : Nat → Int} {R : Option Mat} (h0 : 0 < m) (h7 : m ≤ 7) (hz : ZRes W base m R (zoneV ((m : Int) - 1) A (rlen m R) c)) (hp : PtAt W b off n f) :
    Calls Tryd.prog 31 #[zoneV ((m : Int) - 1) A (rlen m R) c, .slice (some ⟨b, off, none⟩) n cp] W (RetB W (hasO m n f R)) :=
  has_any h0 h7 hp.1 hp.2 (fun _ hb => close_back h0 h7 (hz.below hb))
end Go.Proofs.YtcbkffpmclainaaDoor

/- ZoneMoves, ZoneCopied: what Has says of what was made. -/
namespace Go.Proofs.YtcbkffpmclainaaDoor
open Go.RowKit

theorem at1_same (p : Nat → Int) (i : Nat) (x : Int) : at1 p i x i = x := if_pos rfl
theorem at1_other (p : Nat → Int) {i a : Nat} (x : Int) (h : a ≠ i) : at1 p i x a = p a := if_neg h
theorem at1_back (p : Nat → Int) (i : Nat) (x : Int) : at1 (at1 p i x) i (p i) = p := by
  funext a
  by_cases h : a = i
  · subst h; rw [at1_same]
  · rw [at1_other _ _ h, at1_other _ _ h]
theorem named_in {m i : Nat} (h1 : 1 ≤ i) (hm : i < m) : namedB ((m : Int) - 1) (i : Int) = true := by
  unfold namedB
  rw [decide_eq_true (by omega), decide_eq_true (by omega)]
  rfl
theorem known_in {m i : Nat} (hm : i < m) : knownB ((m : Int) - 1) (i : Int) = true := by
  unfold knownB
  rw [decide_eq_true (by omega), decide_eq_true (by omega)]
  rfl
theorem bool_iff {a b : Bool} (h : a = true ↔ b = true) : a = b := by cases a <;> cases b <;> simp_all
section
variable {m n t j : Nat} {D : Mat} {f : Nat → Int} {c L H : Int}
theorem mv_guard (hp : Pt m D (vof f)) (hn : n + 1 = m) (ht : t + 1 < m) (hj : j < m) : hasO m n f (grdO m (some D) ((t + 1 : Nat) : Int) (j : Int) c) = decide (vof f (t + 1) - vof f j ≤ c) := by
  have e : grdO m (some D) ((t + 1 : Nat) : Int) (j : Int) c = setR m (grd D (t + 1) j c) := by
    show (if (knownB ((m : Int) - 1) ((t + 1 : Nat) : Int) && knownB ((m : Int) - 1) (j : Int)) = true then setR m (grd D ((t + 1 : Nat) : Int).toNat (j : Int).toNat c) else some D) = _
    rw [known_in ht, known_in hj, Int.toNat_natCast, Int.toNat_natCast]
    rfl
  rw [e]
  refine bool_iff ?_
  rw [hasO_set, decide_eq_true_eq, pt_grd ht hj]
  exact ⟨fun h => h.2.2, fun h => ⟨hn, hp, h⟩⟩
theorem fg_named (ht : t + 1 < m) : fgO m (some D) ((t + 1 : Nat) : Int) = setR m (fgt D (t + 1)) := by
  show (if namedB ((m : Int) - 1) ((t + 1 : Nat) : Int) = true then setR m (fgt D ((t + 1 : Nat) : Int).toNat) else some D) = _
  rw [if_pos (named_in (by omega) ht), Int.toNat_natCast]
theorem inB_bd (h : inB c = true) : -1152921504606846976 ≤ c ∧ c ≤ 1152921504606846976 := by
  unfold inB at h
  simpa using h
theorem mv_forget (hp : Pt m D (vof f)) (hn : n + 1 = m) (ht : t + 1 < m) (hc : inB c = true) : hasO m n (putF f t c) (fgO m (some D) ((t + 1 : Nat) : Int)) = true := by
  rw [fg_named ht, hasO_set, vof_put]
  exact ⟨hn, fgt_put hp (by omega) (inB_bd hc)⟩
theorem cp_named (ht : t + 1 < m) (hj1 : 1 ≤ j) (hj : j < m) (hc : -2305843009213693952 ≤ c ∧ c ≤ 2305843009213693952) : cpyO m (some D) ((t + 1 : Nat) : Int) (j : Int) c = if t + 1 = j then setR m (shf D (t + 1) c) else setR m (cpyM m D (t + 1) j c) := by
  show (if (namedB ((m : Int) - 1) ((t + 1 : Nat) : Int) && namedB ((m : Int) - 1) (j : Int)) = true then (if c < -2305843009213693952 ∨ 2305843009213693952 < c then none else if ((t + 1 : Nat) : Int) = (j : Int) then setR m (shf D ((t + 1 : Nat) : Int).toNat c) else setR m (cpyM m D ((t + 1 : Nat) : Int).toNat (j : Int).toNat c)) else some D) = _
  rw [named_in (by omega) ht, named_in hj1 hj, if_pos (show (true && true) = true from rfl), if_neg (by omega), Int.toNat_natCast, Int.toNat_natCast]
  by_cases h : t + 1 = j
  · rw [if_pos (by omega), if_pos h]
  · rw [if_neg (by omega), if_neg h]
theorem mv_copy (hp : Pt m D (vof f)) (hD : Closed m D) (hn : n + 1 = m) (ht : t + 1 < m) (hj1 : 1 ≤ j) (hj : j < m) (hc : -2305843009213693952 ≤ c ∧ c ≤ 2305843009213693952) (hq : inB (vof f j + c) = true) : hasO m n (putF f t (vof f j + c)) (cpyO m (some D) ((t + 1 : Nat) : Int) (j : Int) c) = true := by
  have hb := inB_bd hq
  rw [cp_named ht hj1 hj hc]
  by_cases h : t + 1 = j
  · rw [if_pos h, hasO_set, vof_put, pt_shf hD (by omega) ht, at1_same, ← h]
    refine ⟨hn, ?_, by rw [h]; exact hb⟩
    rw [show vof f (t + 1) + c - c = vof f (t + 1) by omega, at1_back]
    exact hp
  · rw [if_neg h, hasO_set, vof_put]
    unfold cpyM
    rw [pt_grd hj ht, pt_grd ht hj, at1_same, at1_other _ _ (fun e => h e.symm)]
    exact ⟨hn, ⟨(alive_pt (fgt_put hp (by omega) hb)).2, by omega⟩, by omega⟩
theorem meet_full {x : Int} (hx : -1152921504606846976 ≤ x ∧ x ≤ 1152921504606846976) : (meetL L H (-1152921504606846976) 1152921504606846976 ≤ x ∧ x ≤ meetH L H (-1152921504606846976) 1152921504606846976) ↔ hasS L H x = true := by
  obtain ⟨e1, e2⟩ := tk_of_right (l := -1152921504606846976) (h := 1152921504606846976) ((rightS_iff _ _).2 (.inr ⟨by omega, by omega, by omega⟩))
  have hm := meet_cases L H (-1152921504606846976) 1152921504606846976
  rw [e1, e2] at hm
  rw [hasS_iff]
  cases hN : noneS L H
  · obtain ⟨h1, h2, h3, h4, h5, -⟩ := noneS_no hN
    rw [h4, h5] at hm
    rcases hm with ⟨a, b, d⟩ | ⟨a, b, d⟩ <;> rw [b, d]
    · exact ⟨fun h => ⟨rfl, by omega, by omega⟩, fun h => by omega⟩
    · omega
  · obtain ⟨h1, h2⟩ := noneS_yes hN
    rw [h1, h2] at hm
    rcases hm with ⟨a, b, d⟩ | ⟨a, b, d⟩ <;> rw [b, d]
    · omega
    · exact ⟨fun h => by omega, fun h => by cases h.1⟩
theorem mv_set (hp : Pt m D (vof f)) (hn : n + 1 = m) (ht : t + 1 < m) : hasO m n f (setO m (some D) ((t + 1 : Nat) : Int) L H) = hasS L H (f t) := by
  have e : setO m (some D) ((t + 1 : Nat) : Int) L H = setR m (setM (lev (fgt D (t + 1)) m) (t + 1) (meetL L H (-1152921504606846976) 1152921504606846976) (meetH L H (-1152921504606846976) 1152921504606846976)) := by
    show (if namedB ((m : Int) - 1) ((t + 1 : Nat) : Int) = true then setR m (setM (lev (fgt D ((t + 1 : Nat) : Int).toNat) m) ((t + 1 : Nat) : Int).toNat _ _) else some D) = _
    rw [if_pos (named_in (by omega) ht), Int.toNat_natCast]
  have h0 : 0 < m := by omega
  have hx := hp.whole (t + 1) ht
  have hz := hp.zero
  rw [e, vof_succ f t]
  refine bool_iff ?_
  rw [hasO_set, ← meet_full hx]
  unfold setM
  rw [pt_grd h0 ht, pt_grd ht h0, hz]
  constructor
  · rintro ⟨-, ⟨-, h1⟩, h2⟩
    omega
  · rintro ⟨h1, h2⟩
    exact ⟨hn, ⟨(alive_pt (fgt_self hp)).2, by omega⟩, by omega⟩
end
end Go.Proofs.YtcbkffpmclainaaDoor

/- ZoneMoves, ZoneCopied: the ways out of what they ask. -/
namespace Go.Proofs.YtcbkffpmclainaaDoor
open Go.RowKit
attribute [local go_sem ↓] Go.wp_at_zero Go.wp_at_succ

set_option maxRecDepth 100000 in
set_option maxHeartbeats 3200000 in
theorem moves_far {w : World} {N : Int} {A P : Option Addr} {ml cap n cp : Nat} {I J C L H : Int} (h : ¬ ml ≤ 100) :
    Calls Tryd.prog 6 #[zoneV N A ml cap, .slice P n cp, .agg #[.int .i64 I, .int .i64 J, .int .i64 C, .int .i64 L, .int .i64 H]] w (RetB w true) := by
  have HT := Lib.hid (mv_new w N A ml cap I J C L H)
  have HE := Lib.hid (decide_eq_false h)
  clear h
  go_enter Tryd.func6, Tryd.ntmps6
  go_wp2_with (first
    | (go_at_call 9; ((with_reducible refine (few_any _ _ A ml cap).mono ?_); rw [HE.out]; rintro e w1 ⟨rfl, hb1⟩); have M1 := Lib.hid (HT.out.below hb1); obtain ⟨⟨a0, a1⟩, a2, a3, a4, a5, a6⟩ := M1.out.s; obtain ⟨a7, a8⟩ := M1.out.sz; have B1 := Lib.hid M1.out.low; clear hb1)
    | (go_at_call 10; ((with_reducible refine (alive_any _).mono ?_); rintro e w3 ⟨rfl, hb3⟩); have B3 := Lib.hid (B1.out.trans (hb3.mono B1.out.size)); clear hb3))
  go_ret
  exact ⟨rfl, B3.out⟩
set_option maxRecDepth 100000 in
set_option maxHeartbeats 3200000 in
theorem moves_out0 {w : World} {N : Int} {A P : Option Addr} {ml cap n cp : Nat} {I J C L H : Int} (h : ml ≤ 100) (g0 : 6 < n) :
    Calls Tryd.prog 6 #[zoneV N A ml cap, .slice P n cp, .agg #[.int .i64 I, .int .i64 J, .int .i64 C, .int .i64 L, .int .i64 H]] w (RetB w true) := by
  have HT := Lib.hid (mv_new w N A ml cap I J C L H)
  have HE := Lib.hid (decide_eq_true h)
  have fz := field_n
  have d0 : decide ((6 : Int) < (n : Int)) = true := decide_eq_true (by omega)
  have D0 : decide (6 < n) = true := decide_eq_true (by omega)
  clear h g0
  go_enter Tryd.func6, Tryd.ntmps6
  go_wp2_with (first
    | (go_at_call 9; ((with_reducible refine (few_any _ _ A ml cap).mono ?_); rw [HE.out]; rintro e w1 ⟨rfl, hb1⟩); have M1 := Lib.hid (HT.out.below hb1); obtain ⟨⟨a0, a1⟩, a2, a3, a4, a5, a6⟩ := M1.out.s; obtain ⟨a7, a8⟩ := M1.out.sz; have B1 := Lib.hid M1.out.low; clear hb1)
    | (go_at_call 10; ((with_reducible refine (alive_any _).mono ?_); rintro e w3 ⟨rfl, hb3⟩); have B3 := Lib.hid (B1.out.trans (hb3.mono B1.out.size)); clear hb3))
  go_ret
  exact ⟨rfl, B3.out⟩
set_option maxRecDepth 100000 in
set_option maxHeartbeats 3200000 in
theorem moves_out1 {w : World} {N : Int} {A P : Option Addr} {ml cap n cp : Nat} {f : Nat → Int} {I J C L H : Int} (hz : ZArg w (zoneV N A ml cap) N ml f) (h : ml ≤ 100) (g0 : n ≤ 6) (g1 : (n : Int) ≠ (zm N : Int) - 1) :
    Calls Tryd.prog 6 #[zoneV N A ml cap, .slice P n cp, .agg #[.int .i64 I, .int .i64 J, .int .i64 C, .int .i64 L, .int .i64 H]] w (RetB w true) := by
  have HT := Lib.hid (mv_new w N A ml cap I J C L H)
  have HCl : Hid (∀ W, Below w.heap.size w W → Calls Tryd.prog 19 #[zoneV N A ml cap] W (RetC W (zm N) (zr N ml f))) := Lib.hid fun W hb => rclean_z (hz.below hb)
  have HE := Lib.hid (decide_eq_true h)
  have fz := field_n
  have d0 : decide ((6 : Int) < (n : Int)) = false := decide_eq_false (by omega)
  have D0 : decide (6 < n) = false := decide_eq_false (by omega)
  have d1 : ((n : Int) == (zm N : Int) - 1) = false := by simp; omega
  have D1 : decide ((n : Int) = (zm N : Int) - 1) = false := decide_eq_false (by omega)
  have E1 : ((n : Int) != (zm N : Int) - 1) = true := by simp; omega
  clear h g0 g1 hz
  generalize zm N = m at *
  go_enter Tryd.func6, Tryd.ntmps6
  go_wp2_with (first
    | (go_at_call 9; ((with_reducible refine (few_any _ _ A ml cap).mono ?_); rw [HE.out]; rintro e w1 ⟨rfl, hb1⟩); have M1 := Lib.hid (HT.out.below hb1); obtain ⟨⟨a0, a1⟩, a2, a3, a4, a5, a6⟩ := M1.out.s; obtain ⟨a7, a8⟩ := M1.out.sz; have B1 := Lib.hid M1.out.low; clear hb1)
    | (go_at_call 19; ((with_reducible refine (HCl.out _ B1.out).mono ?_); rintro e w2 ⟨A2, c2, rfl, hz2, hb2⟩); have M2 := Lib.hid (M1.out.below hb2); obtain ⟨⟨b0, b1⟩, b2, b3, b4, b5, b6⟩ := M2.out.s; obtain ⟨b7, b8⟩ := M2.out.sz; have B2 := Lib.hid M2.out.low; clear hb2 hz2)
    | (go_at_call 10; ((with_reducible refine (alive_any _).mono ?_); rintro e w3 ⟨rfl, hb3⟩); have B3 := Lib.hid (B2.out.trans (hb3.mono B2.out.size)); clear hb3))
  go_ret
  exact ⟨rfl, B3.out⟩
set_option maxRecDepth 100000 in
set_option maxHeartbeats 3200000 in
theorem moves_out2 {w : World} {N : Int} {A P : Option Addr} {ml cap n cp : Nat} {f : Nat → Int} {I J C L H : Int} (hz : ZArg w (zoneV N A ml cap) N ml f) (h : ml ≤ 100) (g0 : n ≤ 6) (g1 : (n : Int) = (zm N : Int) - 1) (g2 : I < 1) :
    Calls Tryd.prog 6 #[zoneV N A ml cap, .slice P n cp, .agg #[.int .i64 I, .int .i64 J, .int .i64 C, .int .i64 L, .int .i64 H]] w (RetB w true) := by
  have HT := Lib.hid (mv_new w N A ml cap I J C L H)
  have HCl : Hid (∀ W, Below w.heap.size w W → Calls Tryd.prog 19 #[zoneV N A ml cap] W (RetC W (zm N) (zr N ml f))) := Lib.hid fun W hb => rclean_z (hz.below hb)
  have HE := Lib.hid (decide_eq_true h)
  have fz := field_n
  have d0 : decide ((6 : Int) < (n : Int)) = false := decide_eq_false (by omega)
  have D0 : decide (6 < n) = false := decide_eq_false (by omega)
  have d1 : ((n : Int) == (zm N : Int) - 1) = true := by simp; omega
  have D1 : decide ((n : Int) = (zm N : Int) - 1) = true := decide_eq_true (by omega)
  have E1 : ((n : Int) != (zm N : Int) - 1) = false := by simp; omega
  have d2 : decide (I < 1) = true := decide_eq_true (by omega)
  clear h g0 g1 g2 hz
  generalize zm N = m at *
  go_enter Tryd.func6, Tryd.ntmps6
  go_wp2_with (first
    | (go_at_call 9; ((with_reducible refine (few_any _ _ A ml cap).mono ?_); rw [HE.out]; rintro e w1 ⟨rfl, hb1⟩); have M1 := Lib.hid (HT.out.below hb1); obtain ⟨⟨a0, a1⟩, a2, a3, a4, a5, a6⟩ := M1.out.s; obtain ⟨a7, a8⟩ := M1.out.sz; have B1 := Lib.hid M1.out.low; clear hb1)
    | (go_at_call 19; ((with_reducible refine (HCl.out _ B1.out).mono ?_); rintro e w2 ⟨A2, c2, rfl, hz2, hb2⟩); have M2 := Lib.hid (M1.out.below hb2); obtain ⟨⟨b0, b1⟩, b2, b3, b4, b5, b6⟩ := M2.out.s; obtain ⟨b7, b8⟩ := M2.out.sz; have B2 := Lib.hid M2.out.low; clear hb2 hz2)
    | (go_at_call 10; ((with_reducible refine (alive_any _).mono ?_); rintro e w3 ⟨rfl, hb3⟩); have B3 := Lib.hid (B2.out.trans (hb3.mono B2.out.size)); clear hb3))
  go_ret
  exact ⟨rfl, B3.out⟩
set_option maxRecDepth 100000 in
set_option maxHeartbeats 3200000 in
theorem moves_out3 {w : World} {N : Int} {A P : Option Addr} {ml cap n cp : Nat} {f : Nat → Int} {I J C L H : Int} (hz : ZArg w (zoneV N A ml cap) N ml f) (h : ml ≤ 100) (g0 : n ≤ 6) (g1 : (n : Int) = (zm N : Int) - 1) (g2 : 1 ≤ I) (g3 : (n : Int) < I) :
    Calls Tryd.prog 6 #[zoneV N A ml cap, .slice P n cp, .agg #[.int .i64 I, .int .i64 J, .int .i64 C, .int .i64 L, .int .i64 H]] w (RetB w true) := by
  have HT := Lib.hid (mv_new w N A ml cap I J C L H)
  have HCl : Hid (∀ W, Below w.heap.size w W → Calls Tryd.prog 19 #[zoneV N A ml cap] W (RetC W (zm N) (zr N ml f))) := Lib.hid fun W hb => rclean_z (hz.below hb)
  have HE := Lib.hid (decide_eq_true h)
  have fz := field_n
  have d0 : decide ((6 : Int) < (n : Int)) = false := decide_eq_false (by omega)
  have D0 : decide (6 < n) = false := decide_eq_false (by omega)
  have d1 : ((n : Int) == (zm N : Int) - 1) = true := by simp; omega
  have D1 : decide ((n : Int) = (zm N : Int) - 1) = true := decide_eq_true (by omega)
  have E1 : ((n : Int) != (zm N : Int) - 1) = false := by simp; omega
  have d2 : decide (I < 1) = false := decide_eq_false (by omega)
  have d3 : decide ((n : Int) < I) = true := decide_eq_true (by omega)
  clear h g0 g1 g2 g3 hz
  generalize zm N = m at *
  go_enter Tryd.func6, Tryd.ntmps6
  go_wp2_with (first
    | (go_at_call 9; ((with_reducible refine (few_any _ _ A ml cap).mono ?_); rw [HE.out]; rintro e w1 ⟨rfl, hb1⟩); have M1 := Lib.hid (HT.out.below hb1); obtain ⟨⟨a0, a1⟩, a2, a3, a4, a5, a6⟩ := M1.out.s; obtain ⟨a7, a8⟩ := M1.out.sz; have B1 := Lib.hid M1.out.low; clear hb1)
    | (go_at_call 19; ((with_reducible refine (HCl.out _ B1.out).mono ?_); rintro e w2 ⟨A2, c2, rfl, hz2, hb2⟩); have M2 := Lib.hid (M1.out.below hb2); obtain ⟨⟨b0, b1⟩, b2, b3, b4, b5, b6⟩ := M2.out.s; obtain ⟨b7, b8⟩ := M2.out.sz; have B2 := Lib.hid M2.out.low; clear hb2 hz2)
    | (go_at_call 10; ((with_reducible refine (alive_any _).mono ?_); rintro e w3 ⟨rfl, hb3⟩); have B3 := Lib.hid (B2.out.trans (hb3.mono B2.out.size)); clear hb3))
  go_ret
  exact ⟨rfl, B3.out⟩
set_option maxRecDepth 100000 in
set_option maxHeartbeats 3200000 in
theorem moves_out4 {w : World} {N : Int} {A P : Option Addr} {ml cap n cp : Nat} {f : Nat → Int} {I J C L H : Int} (hz : ZArg w (zoneV N A ml cap) N ml f) (h : ml ≤ 100) (g0 : n ≤ 6) (g1 : (n : Int) = (zm N : Int) - 1) (g2 : 1 ≤ I) (g3 : I ≤ (n : Int)) (g4 : J < 0) :
    Calls Tryd.prog 6 #[zoneV N A ml cap, .slice P n cp, .agg #[.int .i64 I, .int .i64 J, .int .i64 C, .int .i64 L, .int .i64 H]] w (RetB w true) := by
  have HT := Lib.hid (mv_new w N A ml cap I J C L H)
  have HCl : Hid (∀ W, Below w.heap.size w W → Calls Tryd.prog 19 #[zoneV N A ml cap] W (RetC W (zm N) (zr N ml f))) := Lib.hid fun W hb => rclean_z (hz.below hb)
  have HE := Lib.hid (decide_eq_true h)
  have fz := field_n
  have d0 : decide ((6 : Int) < (n : Int)) = false := decide_eq_false (by omega)
  have D0 : decide (6 < n) = false := decide_eq_false (by omega)
  have d1 : ((n : Int) == (zm N : Int) - 1) = true := by simp; omega
  have D1 : decide ((n : Int) = (zm N : Int) - 1) = true := decide_eq_true (by omega)
  have E1 : ((n : Int) != (zm N : Int) - 1) = false := by simp; omega
  have d2 : decide (I < 1) = false := decide_eq_false (by omega)
  have d3 : decide ((n : Int) < I) = false := decide_eq_false (by omega)
  have d4 : decide (J < 0) = true := decide_eq_true (by omega)
  clear h g0 g1 g2 g3 g4 hz
  generalize zm N = m at *
  go_enter Tryd.func6, Tryd.ntmps6
  go_wp2_with (first
    | (go_at_call 9; ((with_reducible refine (few_any _ _ A ml cap).mono ?_); rw [HE.out]; rintro e w1 ⟨rfl, hb1⟩); have M1 := Lib.hid (HT.out.below hb1); obtain ⟨⟨a0, a1⟩, a2, a3, a4, a5, a6⟩ := M1.out.s; obtain ⟨a7, a8⟩ := M1.out.sz; have B1 := Lib.hid M1.out.low; clear hb1)
    | (go_at_call 19; ((with_reducible refine (HCl.out _ B1.out).mono ?_); rintro e w2 ⟨A2, c2, rfl, hz2, hb2⟩); have M2 := Lib.hid (M1.out.below hb2); obtain ⟨⟨b0, b1⟩, b2, b3, b4, b5, b6⟩ := M2.out.s; obtain ⟨b7, b8⟩ := M2.out.sz; have B2 := Lib.hid M2.out.low; clear hb2 hz2)
    | (go_at_call 10; ((with_reducible refine (alive_any _).mono ?_); rintro e w3 ⟨rfl, hb3⟩); have B3 := Lib.hid (B2.out.trans (hb3.mono B2.out.size)); clear hb3))
  go_ret
  exact ⟨rfl, B3.out⟩
set_option maxRecDepth 100000 in
set_option maxHeartbeats 3200000 in
theorem moves_out5 {w : World} {N : Int} {A P : Option Addr} {ml cap n cp : Nat} {f : Nat → Int} {I J C L H : Int} (hz : ZArg w (zoneV N A ml cap) N ml f) (h : ml ≤ 100) (g0 : n ≤ 6) (g1 : (n : Int) = (zm N : Int) - 1) (g2 : 1 ≤ I) (g3 : I ≤ (n : Int)) (g4 : 0 ≤ J) (g5 : (n : Int) < J) :
    Calls Tryd.prog 6 #[zoneV N A ml cap, .slice P n cp, .agg #[.int .i64 I, .int .i64 J, .int .i64 C, .int .i64 L, .int .i64 H]] w (RetB w true) := by
  have HT := Lib.hid (mv_new w N A ml cap I J C L H)
  have HCl : Hid (∀ W, Below w.heap.size w W → Calls Tryd.prog 19 #[zoneV N A ml cap] W (RetC W (zm N) (zr N ml f))) := Lib.hid fun W hb => rclean_z (hz.below hb)
  have HE := Lib.hid (decide_eq_true h)
  have fz := field_n
  have d0 : decide ((6 : Int) < (n : Int)) = false := decide_eq_false (by omega)
  have D0 : decide (6 < n) = false := decide_eq_false (by omega)
  have d1 : ((n : Int) == (zm N : Int) - 1) = true := by simp; omega
  have D1 : decide ((n : Int) = (zm N : Int) - 1) = true := decide_eq_true (by omega)
  have E1 : ((n : Int) != (zm N : Int) - 1) = false := by simp; omega
  have d2 : decide (I < 1) = false := decide_eq_false (by omega)
  have d3 : decide ((n : Int) < I) = false := decide_eq_false (by omega)
  have d4 : decide (J < 0) = false := decide_eq_false (by omega)
  have d5 : decide ((n : Int) < J) = true := decide_eq_true (by omega)
  clear h g0 g1 g2 g3 g4 g5 hz
  generalize zm N = m at *
  go_enter Tryd.func6, Tryd.ntmps6
  go_wp2_with (first
    | (go_at_call 9; ((with_reducible refine (few_any _ _ A ml cap).mono ?_); rw [HE.out]; rintro e w1 ⟨rfl, hb1⟩); have M1 := Lib.hid (HT.out.below hb1); obtain ⟨⟨a0, a1⟩, a2, a3, a4, a5, a6⟩ := M1.out.s; obtain ⟨a7, a8⟩ := M1.out.sz; have B1 := Lib.hid M1.out.low; clear hb1)
    | (go_at_call 19; ((with_reducible refine (HCl.out _ B1.out).mono ?_); rintro e w2 ⟨A2, c2, rfl, hz2, hb2⟩); have M2 := Lib.hid (M1.out.below hb2); obtain ⟨⟨b0, b1⟩, b2, b3, b4, b5, b6⟩ := M2.out.s; obtain ⟨b7, b8⟩ := M2.out.sz; have B2 := Lib.hid M2.out.low; clear hb2 hz2)
    | (go_at_call 10; ((with_reducible refine (alive_any _).mono ?_); rintro e w3 ⟨rfl, hb3⟩); have B3 := Lib.hid (B2.out.trans (hb3.mono B2.out.size)); clear hb3))
  go_ret
  exact ⟨rfl, B3.out⟩
set_option maxRecDepth 100000 in
set_option maxHeartbeats 3200000 in
theorem moves_out6 {w : World} {N : Int} {A P : Option Addr} {ml cap n cp : Nat} {f : Nat → Int} {I J C L H : Int} (hz : ZArg w (zoneV N A ml cap) N ml f) (h : ml ≤ 100) (g0 : n ≤ 6) (g1 : (n : Int) = (zm N : Int) - 1) (g2 : 1 ≤ I) (g3 : I ≤ (n : Int)) (g4 : 0 ≤ J) (g5 : J ≤ (n : Int)) (g6 : C < -2305843009213693952) :
    Calls Tryd.prog 6 #[zoneV N A ml cap, .slice P n cp, .agg #[.int .i64 I, .int .i64 J, .int .i64 C, .int .i64 L, .int .i64 H]] w (RetB w true) := by
  have HT := Lib.hid (mv_new w N A ml cap I J C L H)
  have HCl : Hid (∀ W, Below w.heap.size w W → Calls Tryd.prog 19 #[zoneV N A ml cap] W (RetC W (zm N) (zr N ml f))) := Lib.hid fun W hb => rclean_z (hz.below hb)
  have HE := Lib.hid (decide_eq_true h)
  have fz := field_n
  have d0 : decide ((6 : Int) < (n : Int)) = false := decide_eq_false (by omega)
  have D0 : decide (6 < n) = false := decide_eq_false (by omega)
  have d1 : ((n : Int) == (zm N : Int) - 1) = true := by simp; omega
  have D1 : decide ((n : Int) = (zm N : Int) - 1) = true := decide_eq_true (by omega)
  have E1 : ((n : Int) != (zm N : Int) - 1) = false := by simp; omega
  have d2 : decide (I < 1) = false := decide_eq_false (by omega)
  have d3 : decide ((n : Int) < I) = false := decide_eq_false (by omega)
  have d4 : decide (J < 0) = false := decide_eq_false (by omega)
  have d5 : decide ((n : Int) < J) = false := decide_eq_false (by omega)
  have d6 : decide (C < -2305843009213693952) = true := decide_eq_true (by omega)
  clear h g0 g1 g2 g3 g4 g5 g6 hz
  generalize zm N = m at *
  go_enter Tryd.func6, Tryd.ntmps6
  go_wp2_with (first
    | (go_at_call 9; ((with_reducible refine (few_any _ _ A ml cap).mono ?_); rw [HE.out]; rintro e w1 ⟨rfl, hb1⟩); have M1 := Lib.hid (HT.out.below hb1); obtain ⟨⟨a0, a1⟩, a2, a3, a4, a5, a6⟩ := M1.out.s; obtain ⟨a7, a8⟩ := M1.out.sz; have B1 := Lib.hid M1.out.low; clear hb1)
    | (go_at_call 19; ((with_reducible refine (HCl.out _ B1.out).mono ?_); rintro e w2 ⟨A2, c2, rfl, hz2, hb2⟩); have M2 := Lib.hid (M1.out.below hb2); obtain ⟨⟨b0, b1⟩, b2, b3, b4, b5, b6⟩ := M2.out.s; obtain ⟨b7, b8⟩ := M2.out.sz; have B2 := Lib.hid M2.out.low; clear hb2 hz2)
    | (go_at_call 10; ((with_reducible refine (alive_any _).mono ?_); rintro e w3 ⟨rfl, hb3⟩); have B3 := Lib.hid (B2.out.trans (hb3.mono B2.out.size)); clear hb3))
  go_ret
  exact ⟨rfl, B3.out⟩
set_option maxRecDepth 100000 in
set_option maxHeartbeats 3200000 in
theorem moves_out7 {w : World} {N : Int} {A P : Option Addr} {ml cap n cp : Nat} {f : Nat → Int} {I J C L H : Int} (hz : ZArg w (zoneV N A ml cap) N ml f) (h : ml ≤ 100) (g0 : n ≤ 6) (g1 : (n : Int) = (zm N : Int) - 1) (g2 : 1 ≤ I) (g3 : I ≤ (n : Int)) (g4 : 0 ≤ J) (g5 : J ≤ (n : Int)) (_g6 : -2305843009213693952 ≤ C) (g7 : 2305843009213693952 < C) :
    Calls Tryd.prog 6 #[zoneV N A ml cap, .slice P n cp, .agg #[.int .i64 I, .int .i64 J, .int .i64 C, .int .i64 L, .int .i64 H]] w (RetB w true) := by
  have HT := Lib.hid (mv_new w N A ml cap I J C L H)
  have HCl : Hid (∀ W, Below w.heap.size w W → Calls Tryd.prog 19 #[zoneV N A ml cap] W (RetC W (zm N) (zr N ml f))) := Lib.hid fun W hb => rclean_z (hz.below hb)
  have HE := Lib.hid (decide_eq_true h)
  have fz := field_n
  have d0 : decide ((6 : Int) < (n : Int)) = false := decide_eq_false (by omega)
  have D0 : decide (6 < n) = false := decide_eq_false (by omega)
  have d1 : ((n : Int) == (zm N : Int) - 1) = true := by simp; omega
  have D1 : decide ((n : Int) = (zm N : Int) - 1) = true := decide_eq_true (by omega)
  have E1 : ((n : Int) != (zm N : Int) - 1) = false := by simp; omega
  have d2 : decide (I < 1) = false := decide_eq_false (by omega)
  have d3 : decide ((n : Int) < I) = false := decide_eq_false (by omega)
  have d4 : decide (J < 0) = false := decide_eq_false (by omega)
  have d5 : decide ((n : Int) < J) = false := decide_eq_false (by omega)
  have d6 : decide (C < -2305843009213693952) = false := decide_eq_false (by omega)
  have d7 : decide (2305843009213693952 < C) = true := decide_eq_true (by omega)
  clear h g0 g1 g2 g3 g4 g5 _g6 g7 hz
  generalize zm N = m at *
  go_enter Tryd.func6, Tryd.ntmps6
  go_wp2_with (first
    | (go_at_call 9; ((with_reducible refine (few_any _ _ A ml cap).mono ?_); rw [HE.out]; rintro e w1 ⟨rfl, hb1⟩); have M1 := Lib.hid (HT.out.below hb1); obtain ⟨⟨a0, a1⟩, a2, a3, a4, a5, a6⟩ := M1.out.s; obtain ⟨a7, a8⟩ := M1.out.sz; have B1 := Lib.hid M1.out.low; clear hb1)
    | (go_at_call 19; ((with_reducible refine (HCl.out _ B1.out).mono ?_); rintro e w2 ⟨A2, c2, rfl, hz2, hb2⟩); have M2 := Lib.hid (M1.out.below hb2); obtain ⟨⟨b0, b1⟩, b2, b3, b4, b5, b6⟩ := M2.out.s; obtain ⟨b7, b8⟩ := M2.out.sz; have B2 := Lib.hid M2.out.low; clear hb2 hz2)
    | (go_at_call 10; ((with_reducible refine (alive_any _).mono ?_); rintro e w3 ⟨rfl, hb3⟩); have B3 := Lib.hid (B2.out.trans (hb3.mono B2.out.size)); clear hb3))
  go_ret
  exact ⟨rfl, B3.out⟩
set_option maxRecDepth 100000 in
set_option maxHeartbeats 3200000 in
theorem copied_far {w : World} {N : Int} {A P : Option Addr} {ml cap n cp : Nat} {I J C L H : Int} (h : ¬ ml ≤ 100) :
    Calls Tryd.prog 7 #[zoneV N A ml cap, .slice P n cp, .agg #[.int .i64 I, .int .i64 J, .int .i64 C, .int .i64 L, .int .i64 H]] w (RetB w true) := by
  have HT := Lib.hid (mv_new w N A ml cap I J C L H)
  have HE := Lib.hid (decide_eq_false h)
  clear h
  go_enter Tryd.func7, Tryd.ntmps7
  go_wp2_with (first
    | (go_at_call 9; ((with_reducible refine (few_any _ _ A ml cap).mono ?_); rw [HE.out]; rintro e w1 ⟨rfl, hb1⟩); have M1 := Lib.hid (HT.out.below hb1); obtain ⟨⟨a0, a1⟩, a2, a3, a4, a5, a6⟩ := M1.out.s; obtain ⟨a7, a8⟩ := M1.out.sz; have B1 := Lib.hid M1.out.low; clear hb1)
    | (go_at_call 10; ((with_reducible refine (alive_any _).mono ?_); rintro e w3 ⟨rfl, hb3⟩); have B3 := Lib.hid (B1.out.trans (hb3.mono B1.out.size)); clear hb3))
  go_ret
  exact ⟨rfl, B3.out⟩
set_option maxRecDepth 100000 in
set_option maxHeartbeats 3200000 in
theorem copied_out0 {w : World} {N : Int} {A P : Option Addr} {ml cap n cp : Nat} {I J C L H : Int} (h : ml ≤ 100) (g0 : 6 < n) :
    Calls Tryd.prog 7 #[zoneV N A ml cap, .slice P n cp, .agg #[.int .i64 I, .int .i64 J, .int .i64 C, .int .i64 L, .int .i64 H]] w (RetB w true) := by
  have HT := Lib.hid (mv_new w N A ml cap I J C L H)
  have HE := Lib.hid (decide_eq_true h)
  have fz := field_n
  have d0 : decide ((6 : Int) < (n : Int)) = true := decide_eq_true (by omega)
  have D0 : decide (6 < n) = true := decide_eq_true (by omega)
  clear h g0
  go_enter Tryd.func7, Tryd.ntmps7
  go_wp2_with (first
    | (go_at_call 9; ((with_reducible refine (few_any _ _ A ml cap).mono ?_); rw [HE.out]; rintro e w1 ⟨rfl, hb1⟩); have M1 := Lib.hid (HT.out.below hb1); obtain ⟨⟨a0, a1⟩, a2, a3, a4, a5, a6⟩ := M1.out.s; obtain ⟨a7, a8⟩ := M1.out.sz; have B1 := Lib.hid M1.out.low; clear hb1)
    | (go_at_call 10; ((with_reducible refine (alive_any _).mono ?_); rintro e w3 ⟨rfl, hb3⟩); have B3 := Lib.hid (B1.out.trans (hb3.mono B1.out.size)); clear hb3))
  go_ret
  exact ⟨rfl, B3.out⟩
set_option maxRecDepth 100000 in
set_option maxHeartbeats 3200000 in
theorem copied_out1 {w : World} {N : Int} {A P : Option Addr} {ml cap n cp : Nat} {f : Nat → Int} {I J C L H : Int} (hz : ZArg w (zoneV N A ml cap) N ml f) (h : ml ≤ 100) (g0 : n ≤ 6) (g1 : (n : Int) ≠ (zm N : Int) - 1) :
    Calls Tryd.prog 7 #[zoneV N A ml cap, .slice P n cp, .agg #[.int .i64 I, .int .i64 J, .int .i64 C, .int .i64 L, .int .i64 H]] w (RetB w true) := by
  have HT := Lib.hid (mv_new w N A ml cap I J C L H)
  have HCl : Hid (∀ W, Below w.heap.size w W → Calls Tryd.prog 19 #[zoneV N A ml cap] W (RetC W (zm N) (zr N ml f))) := Lib.hid fun W hb => rclean_z (hz.below hb)
  have HE := Lib.hid (decide_eq_true h)
  have fz := field_n
  have d0 : decide ((6 : Int) < (n : Int)) = false := decide_eq_false (by omega)
  have D0 : decide (6 < n) = false := decide_eq_false (by omega)
  have d1 : ((n : Int) == (zm N : Int) - 1) = false := by simp; omega
  have D1 : decide ((n : Int) = (zm N : Int) - 1) = false := decide_eq_false (by omega)
  have E1 : ((n : Int) != (zm N : Int) - 1) = true := by simp; omega
  clear h g0 g1 hz
  generalize zm N = m at *
  go_enter Tryd.func7, Tryd.ntmps7
  go_wp2_with (first
    | (go_at_call 9; ((with_reducible refine (few_any _ _ A ml cap).mono ?_); rw [HE.out]; rintro e w1 ⟨rfl, hb1⟩); have M1 := Lib.hid (HT.out.below hb1); obtain ⟨⟨a0, a1⟩, a2, a3, a4, a5, a6⟩ := M1.out.s; obtain ⟨a7, a8⟩ := M1.out.sz; have B1 := Lib.hid M1.out.low; clear hb1)
    | (go_at_call 19; ((with_reducible refine (HCl.out _ B1.out).mono ?_); rintro e w2 ⟨A2, c2, rfl, hz2, hb2⟩); have M2 := Lib.hid (M1.out.below hb2); obtain ⟨⟨b0, b1⟩, b2, b3, b4, b5, b6⟩ := M2.out.s; obtain ⟨b7, b8⟩ := M2.out.sz; have B2 := Lib.hid M2.out.low; clear hb2 hz2)
    | (go_at_call 10; ((with_reducible refine (alive_any _).mono ?_); rintro e w3 ⟨rfl, hb3⟩); have B3 := Lib.hid (B2.out.trans (hb3.mono B2.out.size)); clear hb3))
  go_ret
  exact ⟨rfl, B3.out⟩
set_option maxRecDepth 100000 in
set_option maxHeartbeats 3200000 in
theorem copied_out2 {w : World} {N : Int} {A P : Option Addr} {ml cap n cp : Nat} {f : Nat → Int} {I J C L H : Int} (hz : ZArg w (zoneV N A ml cap) N ml f) (h : ml ≤ 100) (g0 : n ≤ 6) (g1 : (n : Int) = (zm N : Int) - 1) (g2 : I < 1) :
    Calls Tryd.prog 7 #[zoneV N A ml cap, .slice P n cp, .agg #[.int .i64 I, .int .i64 J, .int .i64 C, .int .i64 L, .int .i64 H]] w (RetB w true) := by
  have HT := Lib.hid (mv_new w N A ml cap I J C L H)
  have HCl : Hid (∀ W, Below w.heap.size w W → Calls Tryd.prog 19 #[zoneV N A ml cap] W (RetC W (zm N) (zr N ml f))) := Lib.hid fun W hb => rclean_z (hz.below hb)
  have HE := Lib.hid (decide_eq_true h)
  have fz := field_n
  have d0 : decide ((6 : Int) < (n : Int)) = false := decide_eq_false (by omega)
  have D0 : decide (6 < n) = false := decide_eq_false (by omega)
  have d1 : ((n : Int) == (zm N : Int) - 1) = true := by simp; omega
  have D1 : decide ((n : Int) = (zm N : Int) - 1) = true := decide_eq_true (by omega)
  have E1 : ((n : Int) != (zm N : Int) - 1) = false := by simp; omega
  have d2 : decide (I < 1) = true := decide_eq_true (by omega)
  clear h g0 g1 g2 hz
  generalize zm N = m at *
  go_enter Tryd.func7, Tryd.ntmps7
  go_wp2_with (first
    | (go_at_call 9; ((with_reducible refine (few_any _ _ A ml cap).mono ?_); rw [HE.out]; rintro e w1 ⟨rfl, hb1⟩); have M1 := Lib.hid (HT.out.below hb1); obtain ⟨⟨a0, a1⟩, a2, a3, a4, a5, a6⟩ := M1.out.s; obtain ⟨a7, a8⟩ := M1.out.sz; have B1 := Lib.hid M1.out.low; clear hb1)
    | (go_at_call 19; ((with_reducible refine (HCl.out _ B1.out).mono ?_); rintro e w2 ⟨A2, c2, rfl, hz2, hb2⟩); have M2 := Lib.hid (M1.out.below hb2); obtain ⟨⟨b0, b1⟩, b2, b3, b4, b5, b6⟩ := M2.out.s; obtain ⟨b7, b8⟩ := M2.out.sz; have B2 := Lib.hid M2.out.low; clear hb2 hz2)
    | (go_at_call 10; ((with_reducible refine (alive_any _).mono ?_); rintro e w3 ⟨rfl, hb3⟩); have B3 := Lib.hid (B2.out.trans (hb3.mono B2.out.size)); clear hb3))
  go_ret
  exact ⟨rfl, B3.out⟩
set_option maxRecDepth 100000 in
set_option maxHeartbeats 3200000 in
theorem copied_out3 {w : World} {N : Int} {A P : Option Addr} {ml cap n cp : Nat} {f : Nat → Int} {I J C L H : Int} (hz : ZArg w (zoneV N A ml cap) N ml f) (h : ml ≤ 100) (g0 : n ≤ 6) (g1 : (n : Int) = (zm N : Int) - 1) (g2 : 1 ≤ I) (g3 : (n : Int) < I) :
    Calls Tryd.prog 7 #[zoneV N A ml cap, .slice P n cp, .agg #[.int .i64 I, .int .i64 J, .int .i64 C, .int .i64 L, .int .i64 H]] w (RetB w true) := by
  have HT := Lib.hid (mv_new w N A ml cap I J C L H)
  have HCl : Hid (∀ W, Below w.heap.size w W → Calls Tryd.prog 19 #[zoneV N A ml cap] W (RetC W (zm N) (zr N ml f))) := Lib.hid fun W hb => rclean_z (hz.below hb)
  have HE := Lib.hid (decide_eq_true h)
  have fz := field_n
  have d0 : decide ((6 : Int) < (n : Int)) = false := decide_eq_false (by omega)
  have D0 : decide (6 < n) = false := decide_eq_false (by omega)
  have d1 : ((n : Int) == (zm N : Int) - 1) = true := by simp; omega
  have D1 : decide ((n : Int) = (zm N : Int) - 1) = true := decide_eq_true (by omega)
  have E1 : ((n : Int) != (zm N : Int) - 1) = false := by simp; omega
  have d2 : decide (I < 1) = false := decide_eq_false (by omega)
  have d3 : decide ((n : Int) < I) = true := decide_eq_true (by omega)
  clear h g0 g1 g2 g3 hz
  generalize zm N = m at *
  go_enter Tryd.func7, Tryd.ntmps7
  go_wp2_with (first
    | (go_at_call 9; ((with_reducible refine (few_any _ _ A ml cap).mono ?_); rw [HE.out]; rintro e w1 ⟨rfl, hb1⟩); have M1 := Lib.hid (HT.out.below hb1); obtain ⟨⟨a0, a1⟩, a2, a3, a4, a5, a6⟩ := M1.out.s; obtain ⟨a7, a8⟩ := M1.out.sz; have B1 := Lib.hid M1.out.low; clear hb1)
    | (go_at_call 19; ((with_reducible refine (HCl.out _ B1.out).mono ?_); rintro e w2 ⟨A2, c2, rfl, hz2, hb2⟩); have M2 := Lib.hid (M1.out.below hb2); obtain ⟨⟨b0, b1⟩, b2, b3, b4, b5, b6⟩ := M2.out.s; obtain ⟨b7, b8⟩ := M2.out.sz; have B2 := Lib.hid M2.out.low; clear hb2 hz2)
    | (go_at_call 10; ((with_reducible refine (alive_any _).mono ?_); rintro e w3 ⟨rfl, hb3⟩); have B3 := Lib.hid (B2.out.trans (hb3.mono B2.out.size)); clear hb3))
  go_ret
  exact ⟨rfl, B3.out⟩
set_option maxRecDepth 100000 in
set_option maxHeartbeats 3200000 in
theorem copied_out4 {w : World} {N : Int} {A P : Option Addr} {ml cap n cp : Nat} {f : Nat → Int} {I J C L H : Int} (hz : ZArg w (zoneV N A ml cap) N ml f) (h : ml ≤ 100) (g0 : n ≤ 6) (g1 : (n : Int) = (zm N : Int) - 1) (g2 : 1 ≤ I) (g3 : I ≤ (n : Int)) (g4 : J < 1) :
    Calls Tryd.prog 7 #[zoneV N A ml cap, .slice P n cp, .agg #[.int .i64 I, .int .i64 J, .int .i64 C, .int .i64 L, .int .i64 H]] w (RetB w true) := by
  have HT := Lib.hid (mv_new w N A ml cap I J C L H)
  have HCl : Hid (∀ W, Below w.heap.size w W → Calls Tryd.prog 19 #[zoneV N A ml cap] W (RetC W (zm N) (zr N ml f))) := Lib.hid fun W hb => rclean_z (hz.below hb)
  have HE := Lib.hid (decide_eq_true h)
  have fz := field_n
  have d0 : decide ((6 : Int) < (n : Int)) = false := decide_eq_false (by omega)
  have D0 : decide (6 < n) = false := decide_eq_false (by omega)
  have d1 : ((n : Int) == (zm N : Int) - 1) = true := by simp; omega
  have D1 : decide ((n : Int) = (zm N : Int) - 1) = true := decide_eq_true (by omega)
  have E1 : ((n : Int) != (zm N : Int) - 1) = false := by simp; omega
  have d2 : decide (I < 1) = false := decide_eq_false (by omega)
  have d3 : decide ((n : Int) < I) = false := decide_eq_false (by omega)
  have d4 : decide (J < 1) = true := decide_eq_true (by omega)
  clear h g0 g1 g2 g3 g4 hz
  generalize zm N = m at *
  go_enter Tryd.func7, Tryd.ntmps7
  go_wp2_with (first
    | (go_at_call 9; ((with_reducible refine (few_any _ _ A ml cap).mono ?_); rw [HE.out]; rintro e w1 ⟨rfl, hb1⟩); have M1 := Lib.hid (HT.out.below hb1); obtain ⟨⟨a0, a1⟩, a2, a3, a4, a5, a6⟩ := M1.out.s; obtain ⟨a7, a8⟩ := M1.out.sz; have B1 := Lib.hid M1.out.low; clear hb1)
    | (go_at_call 19; ((with_reducible refine (HCl.out _ B1.out).mono ?_); rintro e w2 ⟨A2, c2, rfl, hz2, hb2⟩); have M2 := Lib.hid (M1.out.below hb2); obtain ⟨⟨b0, b1⟩, b2, b3, b4, b5, b6⟩ := M2.out.s; obtain ⟨b7, b8⟩ := M2.out.sz; have B2 := Lib.hid M2.out.low; clear hb2 hz2)
    | (go_at_call 10; ((with_reducible refine (alive_any _).mono ?_); rintro e w3 ⟨rfl, hb3⟩); have B3 := Lib.hid (B2.out.trans (hb3.mono B2.out.size)); clear hb3))
  go_ret
  exact ⟨rfl, B3.out⟩
set_option maxRecDepth 100000 in
set_option maxHeartbeats 3200000 in
theorem copied_out5 {w : World} {N : Int} {A P : Option Addr} {ml cap n cp : Nat} {f : Nat → Int} {I J C L H : Int} (hz : ZArg w (zoneV N A ml cap) N ml f) (h : ml ≤ 100) (g0 : n ≤ 6) (g1 : (n : Int) = (zm N : Int) - 1) (g2 : 1 ≤ I) (g3 : I ≤ (n : Int)) (g4 : 1 ≤ J) (g5 : (n : Int) < J) :
    Calls Tryd.prog 7 #[zoneV N A ml cap, .slice P n cp, .agg #[.int .i64 I, .int .i64 J, .int .i64 C, .int .i64 L, .int .i64 H]] w (RetB w true) := by
  have HT := Lib.hid (mv_new w N A ml cap I J C L H)
  have HCl : Hid (∀ W, Below w.heap.size w W → Calls Tryd.prog 19 #[zoneV N A ml cap] W (RetC W (zm N) (zr N ml f))) := Lib.hid fun W hb => rclean_z (hz.below hb)
  have HE := Lib.hid (decide_eq_true h)
  have fz := field_n
  have d0 : decide ((6 : Int) < (n : Int)) = false := decide_eq_false (by omega)
  have D0 : decide (6 < n) = false := decide_eq_false (by omega)
  have d1 : ((n : Int) == (zm N : Int) - 1) = true := by simp; omega
  have D1 : decide ((n : Int) = (zm N : Int) - 1) = true := decide_eq_true (by omega)
  have E1 : ((n : Int) != (zm N : Int) - 1) = false := by simp; omega
  have d2 : decide (I < 1) = false := decide_eq_false (by omega)
  have d3 : decide ((n : Int) < I) = false := decide_eq_false (by omega)
  have d4 : decide (J < 1) = false := decide_eq_false (by omega)
  have d5 : decide ((n : Int) < J) = true := decide_eq_true (by omega)
  clear h g0 g1 g2 g3 g4 g5 hz
  generalize zm N = m at *
  go_enter Tryd.func7, Tryd.ntmps7
  go_wp2_with (first
    | (go_at_call 9; ((with_reducible refine (few_any _ _ A ml cap).mono ?_); rw [HE.out]; rintro e w1 ⟨rfl, hb1⟩); have M1 := Lib.hid (HT.out.below hb1); obtain ⟨⟨a0, a1⟩, a2, a3, a4, a5, a6⟩ := M1.out.s; obtain ⟨a7, a8⟩ := M1.out.sz; have B1 := Lib.hid M1.out.low; clear hb1)
    | (go_at_call 19; ((with_reducible refine (HCl.out _ B1.out).mono ?_); rintro e w2 ⟨A2, c2, rfl, hz2, hb2⟩); have M2 := Lib.hid (M1.out.below hb2); obtain ⟨⟨b0, b1⟩, b2, b3, b4, b5, b6⟩ := M2.out.s; obtain ⟨b7, b8⟩ := M2.out.sz; have B2 := Lib.hid M2.out.low; clear hb2 hz2)
    | (go_at_call 10; ((with_reducible refine (alive_any _).mono ?_); rintro e w3 ⟨rfl, hb3⟩); have B3 := Lib.hid (B2.out.trans (hb3.mono B2.out.size)); clear hb3))
  go_ret
  exact ⟨rfl, B3.out⟩
set_option maxRecDepth 100000 in
set_option maxHeartbeats 3200000 in
theorem copied_out6 {w : World} {N : Int} {A P : Option Addr} {ml cap n cp : Nat} {f : Nat → Int} {I J C L H : Int} (hz : ZArg w (zoneV N A ml cap) N ml f) (h : ml ≤ 100) (g0 : n ≤ 6) (g1 : (n : Int) = (zm N : Int) - 1) (g2 : 1 ≤ I) (g3 : I ≤ (n : Int)) (g4 : 1 ≤ J) (g5 : J ≤ (n : Int)) (g6 : C < -2305843009213693952) :
    Calls Tryd.prog 7 #[zoneV N A ml cap, .slice P n cp, .agg #[.int .i64 I, .int .i64 J, .int .i64 C, .int .i64 L, .int .i64 H]] w (RetB w true) := by
  have HT := Lib.hid (mv_new w N A ml cap I J C L H)
  have HCl : Hid (∀ W, Below w.heap.size w W → Calls Tryd.prog 19 #[zoneV N A ml cap] W (RetC W (zm N) (zr N ml f))) := Lib.hid fun W hb => rclean_z (hz.below hb)
  have HE := Lib.hid (decide_eq_true h)
  have fz := field_n
  have d0 : decide ((6 : Int) < (n : Int)) = false := decide_eq_false (by omega)
  have D0 : decide (6 < n) = false := decide_eq_false (by omega)
  have d1 : ((n : Int) == (zm N : Int) - 1) = true := by simp; omega
  have D1 : decide ((n : Int) = (zm N : Int) - 1) = true := decide_eq_true (by omega)
  have E1 : ((n : Int) != (zm N : Int) - 1) = false := by simp; omega
  have d2 : decide (I < 1) = false := decide_eq_false (by omega)
  have d3 : decide ((n : Int) < I) = false := decide_eq_false (by omega)
  have d4 : decide (J < 1) = false := decide_eq_false (by omega)
  have d5 : decide ((n : Int) < J) = false := decide_eq_false (by omega)
  have d6 : decide (C < -2305843009213693952) = true := decide_eq_true (by omega)
  clear h g0 g1 g2 g3 g4 g5 g6 hz
  generalize zm N = m at *
  go_enter Tryd.func7, Tryd.ntmps7
  go_wp2_with (first
    | (go_at_call 9; ((with_reducible refine (few_any _ _ A ml cap).mono ?_); rw [HE.out]; rintro e w1 ⟨rfl, hb1⟩); have M1 := Lib.hid (HT.out.below hb1); obtain ⟨⟨a0, a1⟩, a2, a3, a4, a5, a6⟩ := M1.out.s; obtain ⟨a7, a8⟩ := M1.out.sz; have B1 := Lib.hid M1.out.low; clear hb1)
    | (go_at_call 19; ((with_reducible refine (HCl.out _ B1.out).mono ?_); rintro e w2 ⟨A2, c2, rfl, hz2, hb2⟩); have M2 := Lib.hid (M1.out.below hb2); obtain ⟨⟨b0, b1⟩, b2, b3, b4, b5, b6⟩ := M2.out.s; obtain ⟨b7, b8⟩ := M2.out.sz; have B2 := Lib.hid M2.out.low; clear hb2 hz2)
    | (go_at_call 10; ((with_reducible refine (alive_any _).mono ?_); rintro e w3 ⟨rfl, hb3⟩); have B3 := Lib.hid (B2.out.trans (hb3.mono B2.out.size)); clear hb3))
  go_ret
  exact ⟨rfl, B3.out⟩
set_option maxRecDepth 100000 in
set_option maxHeartbeats 3200000 in
theorem copied_out7 {w : World} {N : Int} {A P : Option Addr} {ml cap n cp : Nat} {f : Nat → Int} {I J C L H : Int} (hz : ZArg w (zoneV N A ml cap) N ml f) (h : ml ≤ 100) (g0 : n ≤ 6) (g1 : (n : Int) = (zm N : Int) - 1) (g2 : 1 ≤ I) (g3 : I ≤ (n : Int)) (g4 : 1 ≤ J) (g5 : J ≤ (n : Int)) (_g6 : -2305843009213693952 ≤ C) (g7 : 2305843009213693952 < C) :
    Calls Tryd.prog 7 #[zoneV N A ml cap, .slice P n cp, .agg #[.int .i64 I, .int .i64 J, .int .i64 C, .int .i64 L, .int .i64 H]] w (RetB w true) := by
  have HT := Lib.hid (mv_new w N A ml cap I J C L H)
  have HCl : Hid (∀ W, Below w.heap.size w W → Calls Tryd.prog 19 #[zoneV N A ml cap] W (RetC W (zm N) (zr N ml f))) := Lib.hid fun W hb => rclean_z (hz.below hb)
  have HE := Lib.hid (decide_eq_true h)
  have fz := field_n
  have d0 : decide ((6 : Int) < (n : Int)) = false := decide_eq_false (by omega)
  have D0 : decide (6 < n) = false := decide_eq_false (by omega)
  have d1 : ((n : Int) == (zm N : Int) - 1) = true := by simp; omega
  have D1 : decide ((n : Int) = (zm N : Int) - 1) = true := decide_eq_true (by omega)
  have E1 : ((n : Int) != (zm N : Int) - 1) = false := by simp; omega
  have d2 : decide (I < 1) = false := decide_eq_false (by omega)
  have d3 : decide ((n : Int) < I) = false := decide_eq_false (by omega)
  have d4 : decide (J < 1) = false := decide_eq_false (by omega)
  have d5 : decide ((n : Int) < J) = false := decide_eq_false (by omega)
  have d6 : decide (C < -2305843009213693952) = false := decide_eq_false (by omega)
  have d7 : decide (2305843009213693952 < C) = true := decide_eq_true (by omega)
  clear h g0 g1 g2 g3 g4 g5 _g6 g7 hz
  generalize zm N = m at *
  go_enter Tryd.func7, Tryd.ntmps7
  go_wp2_with (first
    | (go_at_call 9; ((with_reducible refine (few_any _ _ A ml cap).mono ?_); rw [HE.out]; rintro e w1 ⟨rfl, hb1⟩); have M1 := Lib.hid (HT.out.below hb1); obtain ⟨⟨a0, a1⟩, a2, a3, a4, a5, a6⟩ := M1.out.s; obtain ⟨a7, a8⟩ := M1.out.sz; have B1 := Lib.hid M1.out.low; clear hb1)
    | (go_at_call 19; ((with_reducible refine (HCl.out _ B1.out).mono ?_); rintro e w2 ⟨A2, c2, rfl, hz2, hb2⟩); have M2 := Lib.hid (M1.out.below hb2); obtain ⟨⟨b0, b1⟩, b2, b3, b4, b5, b6⟩ := M2.out.s; obtain ⟨b7, b8⟩ := M2.out.sz; have B2 := Lib.hid M2.out.low; clear hb2 hz2)
    | (go_at_call 10; ((with_reducible refine (alive_any _).mono ?_); rintro e w3 ⟨rfl, hb3⟩); have B3 := Lib.hid (B2.out.trans (hb3.mono B2.out.size)); clear hb3))
  go_ret
  exact ⟨rfl, B3.out⟩
end Go.Proofs.YtcbkffpmclainaaDoor
