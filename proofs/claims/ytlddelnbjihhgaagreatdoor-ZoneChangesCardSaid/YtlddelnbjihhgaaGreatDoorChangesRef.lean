/- Put together of: RMeetZ, ChangesMath, Loose, RSteps, RGuard, RCopy, RCopyOne. -/
import Derived.Test.YtlddelnbjihhgaaGreatDoorRHand
import Derived.Test.YtlddelnbjihhgaaGreatDoorMovesMath
import Derived.Test.YtlddelnbjihhgaaGreatDoorSets
import Derived.BigRegion
import Derived.Deep.RegionHeld3
import Derived.Deep.LoopGhost
import Derived.Test.YtlddelnbjihhgaaGreatDoorCopy
import Derived.Test.YtlddelnbjihhgaaGreatDoorSet
import Derived.Test.YtlddelnbjihhgaaGreatDoorGet
/- The document's Close, of bounds in the range (the first part of RMeet, for seats without Meet). -/
namespace Go.Proofs.YtlddelnbjihhgaaGreatDoor
open Go.RowKit
attribute [local go_sem ↓] Go.wp_at_zero Go.wp_at_succ

/-- Bounds in the range. -/
def Bd (m : Nat) (E : Mat) : Prop := ∀ i j, i < m → j < m → -2305843009213693952 ≤ E i j ∧ E i j ≤ 2305843009213693952
theorem near_bd {m : Nat} {E : Mat} (h : Bd m E) : Same m (nearM m (fl m E)) E := by
  intro i j hi hj
  have hb := h i j hi hj
  show nearZ (E ((i * m + j) / m) ((i * m + j) % m)) = E i j
  rw [Nat.mul_comm i m, Nat.mul_add_div (by omega), Nat.mul_add_mod, Nat.div_eq_of_lt hj, Nat.mod_eq_of_lt hj, Nat.add_zero]
  rcases nearZ_cases (E i j) with q | q | q <;> omega
theorem RZ.arg {W : World} {m g c base : Nat} {E : Mat} (h : RZ m g c E base W) (h7 : m ≤ 7) : ZArg W (zoneV ((m : Int) - 1) (some ⟨g, 0, none⟩) (m * m) c) ((m : Int) - 1) (m * m) (fl m E) := by
  have hlen : m * m ≤ c := by
    rcases h.row.2 with ⟨h1, _⟩ | ⟨g', cap', cur, h1, _, _, h4, _⟩
    · simp at h1
    · simp only [Value.slice.injEq] at h1; omega
  refine ⟨_, c, rfl, hlen, ?_, fun _ => ⟨g, 0, rfl, (h.row.lt g rfl).2, fun j hj => ?_⟩⟩
  · have : m * m ≤ 7 * 7 := Nat.mul_le_mul h7 h7
    omega
  · rw [Nat.zero_add, h.row.cellAt j (by omega), List.getElem?_map, fl_at E hj]
    rfl
theorem zr_bd {m : Nat} {E : Mat} (h0 : 0 < m) (h7 : m ≤ 7) (h : Bd m E) : SameO m (zr ((m : Int) - 1) (m * m) (fl m E)) (setR m E) := by
  obtain ⟨e1, e2⟩ := zm_of h0 h7
  have hs := near_bd h
  unfold zr setR
  rw [e1, e2]
  cases ha : aliveB m (nearM m (fl m E))
  · have hb : aliveB m E = false := by
      cases hb : aliveB m E
      · rfl
      · have := (aliveB_iff _ _).2 (alive_congr (cap_congr (same_symm hs)) ((aliveB_iff _ _).1 hb))
        rw [ha] at this
        cases this
    rw [hb]
    simp [SameO]
  · have hb : aliveB m E = true := (aliveB_iff _ _).2 (alive_congr (cap_congr hs) ((aliveB_iff _ _).1 ha))
    rw [hb]
    simp
    exact lev_congr (cap_congr hs) m (Nat.le_refl _)
/-- The document's Close, of bounds in the range. -/
theorem rclose_rz {W : World} {m g c base : Nat} {E : Mat} (h0 : 0 < m) (h7 : m ≤ 7) (hE : Bd m E) (h : RZ m g c E base W) : Calls Tryz.prog 33 #[zoneV ((m : Int) - 1) (some ⟨g, 0, none⟩) (m * m) c] W (RetC W m (setR m E)) := by
  have := rclose_z (h.arg h7)
  rw [(zm_of h0 h7).2] at this
  exact this.mono fun _ _ hr => retC_congr hr (zr_bd h0 h7 hE)
end Go.Proofs.YtlddelnbjihhgaaGreatDoor

/- ZoneChanges: what the document makes of a zone has the points that the program makes. Nothing of the program stands here. -/
namespace Go.Proofs.YtlddelnbjihhgaaGreatDoor
open Go.RowKit

/-- The document's way to forget: all bounds of i but the diagonal's are the greatest. -/
def lsM (C : Mat) (i : Nat) : Mat := fun a b => if (a = i ∨ b = i) ∧ a ≠ b then far a b else C a b
section
variable {m i j : Nat} {C : Mat} {p : Nat → Int} {c : Int}
theorem pt_ls (hC : Closed m C) (_ : i < m) : Pt m (lsM C i) p ↔ Pt m (fgt C i) p := by
  rw [pt_fgt]
  constructor
  · intro h
    refine ⟨h.zero, h.whole, fun a b ha hb h1 h2 => ?_⟩
    have h3 := h.holds a b ha hb
    unfold lsM at h3
    rw [if_neg (by omega)] at h3
    exact h3
  · rintro ⟨h0, h1, h2⟩
    refine ⟨h0, h1, fun a b ha hb => ?_⟩
    have h3 := h1 a ha
    have h4 := h1 b hb
    unfold lsM
    split
    · rename_i e
      rcases far_cases a b with g | g | g
      · exact absurd g.1 e.2
      · rcases g.2.1 with rfl | rfl <;> omega
      · omega
    · rename_i e
      by_cases hab : a = b
      · subst hab
        have := hC.diag a ha
        omega
      · exact h2 a b ha hb (by omega) (by omega)
theorem ls_set (hC : Closed m C) (h0 : 0 < m) (hi : i < m) : SameO m (setR m (lsM C i)) (setR m (fgt C i)) := setR_pts h0 fun _ => pt_ls hC hi
theorem ls_alive (hC : Closed m C) (h0 : 0 < m) (hi : i < m) : Alive m (lsM C i) := (alive_pt ((pt_ls hC hi).2 (fgt_self (pt_col hC h0 h0)))).1
theorem ls_bd (hC : Closed m C) : Bd m (lsM C i) := fun a b ha hb => by
  have h1 := hC.near a b ha hb
  have h2 := hC.low ha hb
  have h3 := far_nonneg a b
  unfold lsM
  split <;> omega
theorem closed_bd (hC : Closed m C) : Bd m C := fun a b ha hb => by
  have h1 := hC.near a b ha hb
  have h2 := hC.low ha hb
  have h3 := far_nonneg a b
  omega
theorem grd_bd (h : Bd m C) (hc : -2305843009213693952 ≤ c) : Bd m (grd C i j c) := fun a b ha hb => by
  have h1 := h a b ha hb
  unfold grd upd
  split
  · rename_i e
    obtain ⟨rfl, rfl⟩ := e
    omega
  · exact h1
theorem pt_lev {A : Mat} : Pt m (lev A m) p ↔ Pt m A p := ⟨pt_of_lev, fun h => (alive_pt h).2⟩
/-- Set. -/
theorem set_doc {L H : Int} (hC : Closed m C) (h0 : 0 < m) (hi : i < m) : SameO m (setR m (setM (lev (lsM C i) m) i L H)) (setR m (setM (lev (fgt C i) m) i L H)) := setR_pts h0 fun p => by
  unfold setM
  rw [pt_grd h0 hi, pt_grd hi h0, pt_grd h0 hi, pt_grd hi h0, pt_lev, pt_lev, pt_ls hC hi]
theorem set_none_of {F : Mat} {L H : Int} (h0 : 0 < m) (hi : i < m) (h : H < L) : setR m (setM F i L H) = none := by
  refine setR_no fun ha => ?_
  have hp := pt_of_lev (pt_col (lev_closed ha) h0 h0)
  unfold setM at hp
  rw [pt_grd h0 hi, pt_grd hi h0] at hp
  omega
/-- Guard: a bound that no two numbers come up to. -/
theorem grd_none (h0 : 0 < m) (hi : i < m) (hj : j < m) (hc : c < -2305843009213693952) : setR m (grd C i j c) = none := by
  refine setR_no fun ha => ?_
  have hp := pt_of_lev (pt_col (lev_closed ha) h0 h0)
  rw [pt_grd hi hj] at hp
  have h1 := hp.1.whole i hi
  have h2 := hp.1.whole j hj
  omega
/-- One guard behind the other. -/
theorem grd_grd {A : Mat} {x : Int} (h0 : 0 < m) (hi : i < m) (hj : j < m) : SameO m (grdO m (setR m A) (i : Int) (j : Int) x) (setR m (grd A i j x)) := by
  by_cases ha : Alive m A
  · rw [setR_yes ha]
    unfold grdO
    have k : (knownB ((m : Int) - 1) (i : Int) && knownB ((m : Int) - 1) (j : Int)) = true := by
      unfold knownB
      rw [decide_eq_true (by omega), decide_eq_true (by omega), decide_eq_true (by omega), decide_eq_true (by omega)]
      rfl
    show SameO m (if (knownB ((m : Int) - 1) (i : Int) && knownB ((m : Int) - 1) (j : Int)) = true then setR m (grd (lev A m) ((i : Int).toNat) ((j : Int).toNat) x) else some (lev A m)) (setR m (grd A i j x))
    rw [if_pos k]
    exact setR_pts h0 fun p => by
      show Pt m (grd (lev A m) ((i : Int).toNat) ((j : Int).toNat) x) p ↔ _
      simp only [Int.toNat_natCast]
      rw [pt_grd hi hj, pt_grd hi hj, pt_lev]
  · rw [setR_no ha, setR_no fun hb => ha (alive_pt ((pt_grd hi hj).1 (pt_of_lev (pt_col (lev_closed hb) h0 h0))).1).1]
    trivial
theorem sameO_trans {R S T : Option Mat} (h : SameO m R S) (k : SameO m S T) : SameO m R T := by
  match R, S, T, h, k with
  | none, none, none, _, _ => trivial
  | some A, some B, some D, h, k =>
    have h' : Same m A B := h
    have k' : Same m B D := k
    exact (fun a b ha hb => (h' a b ha hb).trans (k' a b ha hb) : Same m A D)
theorem sameO_symm {R S : Option Mat} (h : SameO m R S) : SameO m S R := by
  match R, S, h with
  | none, none, _ => trivial
  | some A, some B, h =>
    have h' : Same m A B := h
    exact (fun a b ha hb => (h' a b ha hb).symm : Same m B A)
/-- Copy, of two. -/
theorem cpy_doc (hC : Closed m C) (h0 : 0 < m) (hi : i < m) (hj : j < m) : SameO m (grdO m (setR m (grd (lev (lsM C i) m) i j c)) (j : Int) (i : Int) (-c)) (setR m (cpyM m C i j c)) :=
  sameO_trans (grd_grd h0 hj hi) (setR_pts h0 fun p => by
    unfold cpyM
    rw [pt_grd hj hi, pt_grd hi hj, pt_grd hj hi, pt_grd hi hj, pt_lev, pt_lev, pt_ls hC hi])
/-- Copy, of one: the near bounds of what was moved have the same points. -/
theorem shf_near {E : Mat} (hC : Closed m C) (hi1 : 1 ≤ i) (hi : i < m) (h0 : 0 < m) (hc : -2305843009213693952 ≤ c ∧ c ≤ 2305843009213693952)
    (hE : ∀ a b, a < m → b < m → (E a b = shf C i c a b) ∨ (shf C i c a b > 2305843009213693952 ∧ E a b > 2305843009213693951) ∨ (shf C i c a b < -2305843009213693952 ∧ E a b = -2305843009213693952)) : SameO m (setR m E) (setR m (shf C i c)) := setR_pts h0 fun p => by
  constructor
  · intro h
    refine ⟨h.zero, h.whole, fun a b ha hb => ?_⟩
    have h1 := h.holds a b ha hb
    have wa := h.whole a ha
    have wb := h.whole b hb
    rcases hE a b ha hb with e | e | e
    · omega
    · omega
    · -- it would be less than any two numbers are apart: variable 0 tells that it is not
      exfalso
      have hz := h.zero
      have g1 := h.holds i 0 hi h0
      have g2 := h.holds 0 i h0 hi
      have n1 := hC.near i 0 hi h0
      have n2 := hC.near 0 i h0 hi
      have f1 := far_zero (show i ≠ 0 by omega)
      have e0 := hE i 0 hi h0
      have e00 := hE 0 i h0 hi
      have wi := h.whole i hi
      have s1 : shf C i c i 0 = C i 0 + c := by unfold shf; rw [if_pos rfl, if_neg (by omega)]; omega
      have s2 : shf C i c 0 i = C 0 i - c := by unfold shf; rw [if_pos rfl, if_neg (by omega)]; omega
      rw [s1] at e0
      rw [s2] at e00
      unfold shf at e
      by_cases ea : a = i
      · subst ea
        by_cases eb : b = a
        · subst eb
          have := hC.diag b hb
          simp at e
          omega
        · rw [if_pos rfl, if_neg eb] at e
          have t1 := hC.tri b a 0 hb ha h0
          have t2 := hC.near b 0 hb h0
          have t3 := far_nonneg b 0
          have f3 : far b 0 ≤ 1152921504606846976 := by rcases far_cases b 0 with q | q | q <;> omega
          omega
      · by_cases eb : b = i
        · subst eb
          rw [if_neg ea, if_pos rfl] at e
          have t1 := hC.tri a 0 b ha h0 hb
          have f3 : far 0 a ≤ 1152921504606846976 := by rcases far_cases 0 a with q | q | q <;> omega
          have t2 := hC.near 0 a h0 ha
          omega
        · rw [if_neg ea, if_neg eb] at e
          have l1 := hC.low ha hb
          have l2 := far_nonneg a b
          omega
  · intro h
    refine ⟨h.zero, h.whole, fun a b ha hb => ?_⟩
    have h1 := h.holds a b ha hb
    have wa := h.whole a ha
    have wb := h.whole b hb
    rcases hE a b ha hb with e | e | e <;> omega
end
end Go.Proofs.YtlddelnbjihhgaaGreatDoor

/- The contract of the document's Loose: a right zone with a point, a variable of it. -/
namespace Go.Proofs.YtlddelnbjihhgaaGreatDoor
open Go.RowKit
attribute [local go_sem ↓] Go.wp_at_zero Go.wp_at_succ

/-- Where Loose stands: the bounds of i with the first k are the greatest. -/
def lsUp (C : Mat) (i k : Nat) : Mat := fun a b => if ((a = i ∧ b < k) ∨ (b = i ∧ a < k)) ∧ a ≠ b then far a b else C a b
theorem lsUp_zero (C : Mat) (i : Nat) : lsUp C i 0 = C := by
  funext a b
  unfold lsUp
  rw [if_neg (by omega)]
theorem lsUp_self (C : Mat) (i : Nat) : lsUp C i (i + 1) = lsUp C i i := by
  funext a b
  unfold lsUp
  by_cases e : ((a = i ∧ b < i) ∨ (b = i ∧ a < i)) ∧ a ≠ b
  · rw [if_pos e, if_pos (by omega)]
  · rw [if_neg e, if_neg (by omega)]
theorem lsUp_step {C : Mat} {i k : Nat} (h : k ≠ i) : upd (upd (lsUp C i k) i k (far i k)) k i (far k i) = lsUp C i (k + 1) := by
  funext a b
  unfold upd
  by_cases e1 : a = k ∧ b = i
  · obtain ⟨rfl, rfl⟩ := e1
    rw [if_pos ⟨rfl, rfl⟩]
    unfold lsUp
    rw [if_pos (by omega)]
  · rw [if_neg e1]
    by_cases e2 : a = i ∧ b = k
    · obtain ⟨rfl, rfl⟩ := e2
      rw [if_pos ⟨rfl, rfl⟩]
      unfold lsUp
      rw [if_pos (by omega)]
    · rw [if_neg e2]
      unfold lsUp
      by_cases e : ((a = i ∧ b < k) ∨ (b = i ∧ a < k)) ∧ a ≠ b
      · rw [if_pos e, if_pos (by omega)]
      · rw [if_neg e, if_neg (by omega)]
theorem lsUp_all {m : Nat} (C : Mat) (i : Nat) : Same m (lsUp C i m) (lsM C i) := fun a b ha hb => by
  unfold lsUp lsM
  by_cases e : (a = i ∨ b = i) ∧ a ≠ b
  · rw [if_pos e, if_pos (by omega)]
  · rw [if_neg e, if_neg (by omega)]
/-- The boxes, and the row that is written. -/
structure LT (w : World) (m g c go co : Nat) (E : Mat) (W : World) : Prop where
  za : Duo W w.heap.size 24 (.int .i64 ((m : Int) - 1)) (.slice (some ⟨g, 0, none⟩) (m * m) c)
  zr : Duo W (w.heap.size + 1) 24 (.int .i64 0) (.slice none 0 0)
  low : Below w.heap.size w W
  row : RZ m go co E (w.heap.size + 2) W
  new : w.heap.size + 2 ≤ go
section
variable {w W : World} {m g c go co i j : Nat} {E E' : Mat} {x : Int}
theorem LT.drew (h : LT w m g c go co E W) : LT w m g c go co E W.drew := ⟨h.za, h.zr, h.low.drew, h.row.below (Below.refl _ _).drew, h.new⟩
theorem LT.below {W1 : World} (h : LT w m g c go co E W) (hb : Below W.heap.size W W1) : LT w m g c go co E W1 := ⟨h.za.below hb, h.zr.below hb, h.low.trans (hb.mono h.low.size), h.row.below hb, h.new⟩
theorem LT.put (h : LT w m g c go co E W) (_ : i < m) (hj : j < m) (x : Int) : LT w m g c go co (upd E i j x) (W.setCell ⟨go, i * m + j, none⟩ (.int .i64 x)) := by
  obtain ⟨hs, -⟩ := h.row.row.stored (i * m + j) (.int .i64 x)
  rw [← List.map_set, flat_set E hj x] at hs
  have hn := h.new
  exact ⟨h.za.other (by show w.heap.size ≠ go; omega) _, h.zr.other (by show w.heap.size + 1 ≠ go; omega) _, h.low.setCell (p := ⟨go, i * m + j, none⟩) (by show w.heap.size ≤ go; omega) _, ⟨hs⟩, h.new⟩
theorem LT.congr (h : LT w m g c go co E W) (he : Same m E E') : LT w m g c go co E' W := ⟨h.za, h.zr, h.low, ⟨by rw [← flat_congr he]; exact h.row.row⟩, h.new⟩
end
section
variable {w : World} {m g c i base : Nat} {C : Mat}
set_option maxRecDepth 100000 in
set_option maxHeartbeats 6400000 in
theorem rloose_any (h0 : 0 < m) (h7 : m ≤ 7) (hi : i < m) (hC : Closed m C) (hr : RZ m g c C base w) :
    Calls Tryz.prog 47 #[zoneV ((m : Int) - 1) (some ⟨g, 0, none⟩) (m * m) c, .int .i64 (i : Int)] w (RetC w m (setR m (lsM C i))) := by
  obtain ⟨i0, hi0, hz0, hz1, hz2⟩ := info_parts zinfo3
  have hmm : 0 < m * m := Nat.mul_pos h0 h0
  have hmm2 : m * m ≤ 49 := Nat.mul_le_mul h7 h7
  obtain ⟨W2, hW2, k0, k1, hb2, hs2⟩ := two_boxes_r w (.int .i64 ((m : Int) - 1)) (.slice (some ⟨g, 0, none⟩) (m * m) c) (.int .i64 0) (.slice none 0 0)
  have hb3 := zboxed W2 (.cells #[] 3)
  have hlit := World.ownsRow_lit (base := w.heap.size + 2) (e := 3) (size := 1) W2 #[] 0 (by omega) (by unfold maxLen; omega) rfl
  rw [hs2] at hlit
  have HLit := Lib.hid hlit
  clear hlit
  have HR := Lib.hid (rowAt_own ((hr.below hb2).below hb3).row)
  have HLen : Hid (((flatL m C).map (Value.int .i64)).length = m * m * 1 ∧ (0 + m * m ≤ maxLen ∧ (0 + m * m) * 8 ≤ 140737488355328) ∧ w.heap.size + 2 ≤ (W2.alloc (.cells #[] 3)).heap.size) := Lib.hid ⟨by rw [List.length_map, flat_len]; omega, by unfold maxLen; omega, by rw [World.size_alloc]; omega⟩
  have HQ : Hid (∀ W4 go co, (W2.alloc (.cells #[] 3)).grownBy W4 (some (w.heap.size + 2)) → W4.ownsRow (w.heap.size + 2) 3 1 (.slice (some ⟨go, 0, none⟩) (m * m) co) (m * m) ((flatL m C).map (Value.int .i64)) → LT w m g c go co (lsUp C i 0) W4) := Lib.hid fun W4 go co hg ho => by
    have hb : Below W2.heap.size W2 W4 := hb3.grown hg hb3.size (fun k hk => by injection hk with hk; omega)
    exact ⟨k0.below hb, k1.below hb, hb2.trans (hb.mono hb2.size), by rw [lsUp_zero]; exact ⟨ho⟩, (ho.lt go rfl).1⟩
  have HMm := Lib.hid hmm
  have HCl : Hid (∀ W go co, RZ m go co (lsM C i) (w.heap.size + 2) W → Calls Tryz.prog 33 #[zoneV ((m : Int) - 1) (some ⟨go, 0, none⟩) (m * m) co] W (RetC W m (setR m (lsM C i)))) := Lib.hid fun W go co h => rclose_rz h0 h7 (ls_bd hC) h
  have H0 := Lib.hid h0
  have H7 := Lib.hid h7
  have HI := Lib.hid hi
  have c0 := k0.cell0
  have c1 := k0.cell1
  have c2 := k0.lt
  have hw0 : IntKind.i64.wrap (m : Int) = (m : Int) := IntWalk.i64_in _ (by omega)
  have HW0 := Lib.hid hw0
  clear hr k0 k1 hb2 hb3 hmm hC h0 hi hw0
  go_enter Tryz.func47, Tryz.ntmps47
  go_wp2_with (at_builtin; refine wpList_append_rows rfl _ _ 22 rfl (w.heap.size + 2) 3 i0 (.int .i64 0) 1 8 Tryz.underlying22 hi0 hz0 hz1 hz2 rfl (by decide) _ _ _ rfl HLit.out _ (m * m) ((flatL m C).map (Value.int .i64)) rfl HR.out HLen.out.1 (ints_one _) HLen.out.2.1.1 HLen.out.2.1.2 HLen.out.2.2 ?_; intro v5 w5 ho hg hv; (rw [Nat.zero_add, List.nil_append] at ho); obtain ⟨go, co, hv5, hcq⟩ := row_pos ho HMm.out; subst hv5; have K := Lib.hid (HQ.out _ _ _ hg ho); clear ho hg hv)
  clear c0 c1 c2
  go_loopg [6] m (fun gk s wr => ∃ k : Nat, k + gk = m ∧ s = .int .i64 (k : Int) ∧ LT w m g c go co (lsUp C i k) wr)
  case atStart => exact ⟨0, by omega, rfl, K.out⟩
  case round =>
    rename Nat => g0
    obtain ⟨k, hk', rfl, hL⟩ := hrel
    have HK := Lib.hid hk'
    have M := Lib.hid hL
    clear hk' hL K
    have a0 := M.out.za.cell0
    have a1 := M.out.za.lt
    by_cases hkm : k < m
    · have d4 : decide ((k : Int) ≤ (m : Int) - 1) = true := decide_eq_true (by omega)
      have wk : IntKind.i64.wrap ((k : Int) + 1) = (k : Int) + 1 := IntWalk.i64_in _ (by have := H7.out; omega)
      by_cases hki : k = i
      · have d5 : ((k : Int) == (i : Int)) = true := by simp; omega
        have d6 : ((k : Int) != (i : Int)) = false := by simp; omega
        have MN := Lib.hid (show LT w m g c go co (lsUp C i (k + 1)) _ from by rw [hki, lsUp_self, ← hki]; have := M.out; rw [← hki] at this; exact this)
        have HKI := Lib.hid hki
        clear hki
        go_wp2_with fail
        have hk' := HK.out
        go_roundg (g0 - 1)
        case measure => omega
        case rel => exact ⟨k + 1, by omega, by simp, MN.out⟩
      · have d5 : ((k : Int) == (i : Int)) = false := by simp; omega
        have d6 : ((k : Int) != (i : Int)) = true := by simp; omega
        have HKI := Lib.hid hki
        obtain ⟨e1, e2, e3, e4⟩ := mul_idx H7.out HI.out hkm
        obtain ⟨f1, f2, f3, f4⟩ := mul_idx H7.out hkm HI.out
        obtain ⟨t, ht⟩ : ∃ t, i * m + k = t := ⟨_, rfl⟩
        obtain ⟨u, hu⟩ : ∃ u, k * m + i = u := ⟨_, rfl⟩
        rw [ht] at e1 e4
        rw [hu] at f1 f4
        have HT := Lib.hid (And.intro ht hu)
        have hw0 := HW0.out
        have e5 : (t : Int) < ((m * m : Nat) : Int) := by omega
        have e6 : (t : Int) < (m : Int) * (m : Int) := by rw [← Int.natCast_mul]; exact e5
        have f5 : (u : Int) < ((m * m : Nat) : Int) := by omega
        have f6 : (u : Int) < (m : Int) * (m : Int) := by rw [← Int.natCast_mul]; exact f5
        have hw1 : IntKind.i64.wrap ((i : Int) * (m : Int)) = (i : Int) * (m : Int) := IntWalk.i64_in _ (by omega)
        have hw2 : IntKind.i64.wrap ((i : Int) * (m : Int) + (k : Int)) = (t : Int) := by rw [e1]; exact IntWalk.i64_in _ (by omega)
        have hw3 : IntKind.i64.wrap (t : Int) = (t : Int) := IntWalk.i64_in _ (by omega)
        have hw4 : IntKind.i64.wrap ((k : Int) * (m : Int)) = (k : Int) * (m : Int) := IntWalk.i64_in _ (by omega)
        have hw5 : IntKind.i64.wrap ((k : Int) * (m : Int) + (i : Int)) = (u : Int) := by rw [f1]; exact IntWalk.i64_in _ (by omega)
        have hw6 : IntKind.i64.wrap (u : Int) = (u : Int) := IntWalk.i64_in _ (by omega)
        have MN : Hid (∀ W, LT w m g c go co (upd (lsUp C i k) i k (far i k)) W → LT w m g c go co (lsUp C i (k + 1)) (W.setCell ⟨go, u, none⟩ (.int .i64 (far k i)))) := Lib.hid fun W h => by
          rw [← lsUp_step HKI.out, ← hu]
          exact h.put hkm HI.out _
        have MP : Hid (∀ W, LT w m g c go co (lsUp C i k) W → LT w m g c go co (upd (lsUp C i k) i k (far i k)) (W.setCell ⟨go, t, none⟩ (.int .i64 (far i k)))) := Lib.hid fun W h => by
          rw [← ht]
          exact h.put HI.out hkm _
        have HA1 : Hid (∀ W E, LT w m g c go co E W → W.cell? ⟨go, t, none⟩ = some (.int .i64 (E i k)) ∧ W.frozen? ⟨go, t, none⟩ = false ∧ go < W.heap.size) := Lib.hid fun W E h => by rw [← ht]; exact h.row.at_ HI.out hkm
        have HA2 : Hid (∀ W E, LT w m g c go co E W → W.cell? ⟨go, u, none⟩ = some (.int .i64 (E k i)) ∧ W.frozen? ⟨go, u, none⟩ = false ∧ go < W.heap.size) := Lib.hid fun W E h => by rw [← hu]; exact h.row.at_ hkm HI.out
        have HM1 := Lib.hid (fun W => rmost_any i k W)
        have HM2 := Lib.hid (fun W => rmost_any k i W)
        generalize far i k = x at MN MP HM1
        generalize far k i = y at MN HM2
        clear ht hu hki e1 f1
        go_wp2_with fail
        have MD := Lib.hid M.out.drew
        obtain ⟨b0, b1, b2⟩ := HA1.out _ _ MD.out
        have b3 := MD.out.za.cell0
        have b4 := MD.out.za.lt
        go_cut [] (fun wx => LT w m g c go co (upd (lsUp C i k) i k x) wx)
        case first =>
          go_region_with (first
            | (go_at_call 77; ((with_reducible refine (HM1.out _).mono ?_); rintro e w6 ⟨rfl, rfl⟩)))
          all_goals go_wp2_with fail
          all_goals go_meet
          all_goals exact MP.out _ MD.out
        case rest =>
          have M1 := Lib.hid hcut.drew
          clear hcut MD M b0 b1 b2 b3 b4 a0 a1
          obtain ⟨b0, b1, b2⟩ := HA2.out _ _ M1.out
          have b3 := M1.out.za.cell0
          have b4 := M1.out.za.lt
          go_wp2_with fail
          go_region_with (first
            | (go_at_call 77; ((with_reducible refine (HM2.out _).mono ?_); rintro e w6 ⟨rfl, rfl⟩)))
          all_goals go_wp2_with fail
          all_goals
            have hk' := HK.out
            go_roundg (g0 - 1)
            case measure => omega
            case rel => exact ⟨k + 1, by omega, by simp, MN.out _ M1.out⟩
    · have d4 : decide ((k : Int) ≤ (m : Int) - 1) = false := decide_eq_false (by omega)
      have hke : k = m := by have := HK.out; omega
      have MN := Lib.hid (M.out.congr (E' := lsM C i) (by rw [hke]; exact lsUp_all C i))
      clear hke
      go_wp2_with (go_at_call 33; ((with_reducible refine (HCl.out _ _ _ MN.out.row).mono ?_); rintro e w6 ⟨A6, c6, rfl, hz6, hb6⟩); have HZ6 := Lib.hid hz6; have M6 := Lib.hid (MN.out.below hb6); have x0 := M6.out.zr.cell0; have x1 := M6.out.zr.cell1; have x2 := M6.out.zr.frozen0; have x3 := M6.out.zr.frozen1; have x4 := M6.out.zr.lt; clear hb6 hz6)
      have hp := res_put M6.out.zr M6.out.low (by omega) (.int .i64 ((m : Int) - 1)) (.slice A6 (rlen m (setR m (lsM C i))) c6)
      have y0 := hp.1.cell0
      have y1 := hp.1.cell1
      have hzz := zres_put M6.out.zr (HZ6.out.lower MN.out.low.size) (.int .i64 ((m : Int) - 1)) (.slice A6 (rlen m (setR m (lsM C i))) c6)
      exact bodyPost_ret (v := zoneV ((m : Int) - 1) A6 (rlen m (setR m (lsM C i))) c6) (by simp [results, Tryz.results47, go_sem, y0, y1]) rfl ⟨A6, c6, rfl, hzz, hp.2⟩
end
end Go.Proofs.YtlddelnbjihhgaaGreatDoor

/- The contracts of the document's is, Get, Forget: any right zone, any numbers. -/
namespace Go.Proofs.YtlddelnbjihhgaaGreatDoor
open Go.RowKit
attribute [local go_sem ↓] Go.wp_at_zero Go.wp_at_succ

/-- A right zone comes back, its row old or new. -/
def RetY (w : World) (m : Nat) (R : Option Mat) (e : Ending) (w' : World) : Prop := ∃ A cap, e = .returned (zoneV ((m : Int) - 1) A (rlen m R) cap) ∧ ZRes w' 0 m R (zoneV ((m : Int) - 1) A (rlen m R) cap) ∧ Below w.heap.size w w'
theorem RetC.y {w w' : World} {m : Nat} {R : Option Mat} {e : Ending} (h : RetC w m R e w') : RetY w m R e w' := by
  obtain ⟨A, cap, he, hz, hb⟩ := h
  exact ⟨A, cap, he, hz.lower (Nat.zero_le _), hb⟩
theorem retY_congr {w : World} {m : Nat} {R S : Option Mat} {e : Ending} {w' : World} (hr : RetY w m R e w') (h : SameO m R S) : RetY w m S e w' := by
  obtain ⟨A, cap, he, hz, hb⟩ := hr
  rw [rlen_same h] at he hz
  exact ⟨A, cap, he, zres_congr hz h, hb⟩
def isO (m : Nat) (R : Option Mat) (i : Int) : Bool :=
  match R with
  | none => false
  | some _ => namedB ((m : Int) - 1) i
section
variable {w : World} {m : Nat} {R : Option Mat} {A : Option Addr} {base c : Nat} {i j : Int}
set_option maxRecDepth 100000 in
set_option maxHeartbeats 1600000 in
theorem ris_any (h0 : 0 < m) (i : Int) (W : World) :
    Calls Tryz.prog 46 #[zoneV ((m : Int) - 1) A (rlen m R) c, .int .i64 i] W (RetB W (isO m R i)) := by
  have hb := zboxed W (.cells #[.int .i64 ((m : Int) - 1), .slice A (rlen m R) c] 24)
  cases R with
  | none =>
    have e0 : rlen m (none : Option Mat) = 0 := rfl
    rw [e0] at hb ⊢
    show Calls _ _ _ _ (RetB W false)
    go_enter Tryz.func46, Tryz.ntmps46
    go_wp2_with fail
    go_ret
    exact ⟨rfl, hb⟩
  | some C =>
    have e0 : rlen m (some C) = m * m := rfl
    rw [e0] at hb ⊢
    show Calls _ _ _ _ (RetB W (namedB ((m : Int) - 1) i))
    have hmm : 0 < m * m := Nat.mul_pos h0 h0
    have q2 : decide ((0 : Int) < ((m * m : Nat) : Int)) = true := decide_eq_true (by omega)
    have q3 : decide ((0 : Int) < (m : Int) * (m : Int)) = true := by rw [← Int.natCast_mul]; exact q2
    have q4 : decide (0 < m * m) = true := decide_eq_true hmm
    have q5 : (0 : Int) < (m : Int) * (m : Int) := by rw [← Int.natCast_mul]; omega
    unfold namedB
    cases h1 : decide (1 ≤ i)
    · go_enter Tryz.func46, Tryz.ntmps46
      go_wp2_with fail
      go_ret
      exact ⟨rfl, hb⟩
    · cases h2 : decide (i ≤ (m : Int) - 1)
      · go_enter Tryz.func46, Tryz.ntmps46
        go_wp2_with fail
        go_ret
        exact ⟨rfl, hb⟩
      · go_enter Tryz.func46, Tryz.ntmps46
        go_wp2_with fail
        go_ret
        exact ⟨rfl, hb⟩
/-- The two boxes of a call: the zone's and the result's. -/
def Yz (w W : World) (a a' : Value) : Prop := Duo W w.heap.size 24 a a' ∧ Duo W (w.heap.size + 1) 24 (.int .i64 0) (.slice none 0 0) ∧ Below w.heap.size w W
theorem Yz.below {W W1 : World} {a a' : Value} (h : Yz w W a a') (hb : Below W.heap.size W W1) : Yz w W1 a a' := ⟨h.1.below hb, h.2.1.below hb, h.2.2.trans (hb.mono h.2.2.size)⟩
theorem Yz.drew {W : World} {a a' : Value} (h : Yz w W a a') : Yz w W.drew a a' := ⟨h.1, h.2.1, h.2.2.drew⟩
theorem yz_new (w : World) (a a' : Value) : Yz w ((w.alloc (.cells #[a, a'] 24)).alloc (.cells #[.int .i64 0, .slice none 0 0] 24)) a a' := by
  obtain ⟨W2, h, k0, k1, hb, hs⟩ := two_boxes_r w a a' (.int .i64 0) (.slice none 0 0)
  rw [h]
  exact ⟨k0, k1, hb⟩
/-- The result, put into its box. -/
theorem yz_ret {W : World} {a a' : Value} {B : Option Addr} {c1 b1 : Nat} {S : Option Mat} {fn : Func} {t : Tmp} {ac : Act} (hf : fn.results = #[.cell t 24]) (hd : ac.defers = []) (ht : ac.tmps.getD t undef = .pointer (some ⟨w.heap.size + 1, 0, none⟩))
    (h : Yz w W a a') (hz : ZRes W b1 m S (zoneV ((m : Int) - 1) B (rlen m S) c1)) : bodyPost Tryz.prog fn (RetY w m S) .ret ac ((W.setCell ⟨w.heap.size + 1, 0, none⟩ (.int .i64 ((m : Int) - 1))).setCell ⟨w.heap.size + 1, 1, none⟩ (.slice B (rlen m S) c1)) := by
  have hp := res_put h.2.1 h.2.2 (by omega) (.int .i64 ((m : Int) - 1)) (.slice B (rlen m S) c1)
  have hz2 := zres_put h.2.1 hz (.int .i64 ((m : Int) - 1)) (.slice B (rlen m S) c1)
  have r0 := hp.1.cell0
  have r1 := hp.1.cell1
  simp at ht
  exact bodyPost_ret (v := .agg #[.int .i64 ((m : Int) - 1), .slice B (rlen m S) c1]) (by simp [results, hf, go_sem, ht, r0, r1]) hd ⟨B, c1, rfl, hz2.lower (Nat.zero_le _), hp.2⟩
set_option maxRecDepth 100000 in
set_option maxHeartbeats 1600000 in
theorem rforget_out (h0 : 0 < m) (hz : ZRes w base m R (zoneV ((m : Int) - 1) A (rlen m R) c)) (hi : isO m R i = false) :
    Calls Tryz.prog 13 #[zoneV ((m : Int) - 1) A (rlen m R) c, .int .i64 i] w (RetY w m R) := by
  have Y := Lib.hid (yz_new w (.int .i64 ((m : Int) - 1)) (.slice A (rlen m R) c))
  have HZ := Lib.hid (hz.below Y.out.2.2)
  have HI : Hid (∀ W, Calls Tryz.prog 46 #[zoneV ((m : Int) - 1) A (rlen m R) c, .int .i64 i] W (RetB W false)) := Lib.hid fun W => by
    rw [← hi]
    exact ris_any h0 i W
  obtain ⟨L, hL⟩ : ∃ L, rlen m R = L := ⟨_, rfl⟩
  have HL := Lib.hid hL
  rw [hL] at Y HI
  clear hz hi
  rw [hL]
  clear hL
  go_enter Tryz.func13, Tryz.ntmps13
  go_wp2_with (go_at_call 46; ((with_reducible refine (HI.out _).mono ?_); rintro e w1 ⟨rfl, hb1⟩); have Y1 := Lib.hid (Y.out.below hb1); have HZ1 := Lib.hid (HZ.out.below (by have := HL.out; subst this; exact hb1)); have x0 := Y1.out.1.cell0; have x1 := Y1.out.1.cell1; have x2 := Y1.out.2.1.cell0; have x3 := Y1.out.2.1.cell1; have x4 := Y1.out.2.1.frozen0; have x5 := Y1.out.2.1.frozen1; have x6 := Y1.out.2.1.lt; clear hb1)
  have := HL.out
  subst this
  exact yz_ret rfl rfl rfl Y1.out HZ1.out
set_option maxRecDepth 100000 in
set_option maxHeartbeats 1600000 in
theorem rforget_in {C : Mat} {i0 : Nat} (h0 : 0 < m) (h7 : m ≤ 7) (hi1 : 1 ≤ i0) (hi : i0 < m) (hz : ZRes w base m (some C) (zoneV ((m : Int) - 1) A (rlen m (some C)) c)) :
    Calls Tryz.prog 13 #[zoneV ((m : Int) - 1) A (rlen m (some C)) c, .int .i64 (i0 : Int)] w (RetY w m (setR m (fgt C i0))) := by
  have HI : Hid (∀ W, Calls Tryz.prog 46 #[zoneV ((m : Int) - 1) A (rlen m (some C)) c, .int .i64 (i0 : Int)] W (RetB W true)) := Lib.hid fun W => by
    have h := ris_any (A := A) (c := c) (R := some C) h0 (i0 : Int) W
    rw [show isO m (some C) (i0 : Int) = true from by show namedB _ _ = true; simp [namedB]; omega] at h
    exact h
  obtain ⟨g, rfl, hp, hC⟩ := rp_of hz
  have e0 : rlen m (some C) = m * m := rfl
  rw [e0] at HI ⊢
  have Y := Lib.hid (yz_new w (.int .i64 ((m : Int) - 1)) (.slice (some ⟨g, 0, none⟩) (m * m) c))
  have HL : Hid (∀ W, Below w.heap.size w W → Calls Tryz.prog 47 #[zoneV ((m : Int) - 1) (some ⟨g, 0, none⟩) (m * m) c, .int .i64 (i0 : Int)] W (RetC W m (setR m (fgt C i0)))) := Lib.hid fun W hb =>
    (rloose_any h0 h7 hi hC ⟨(hp.below hb).row⟩).mono fun _ _ hr => retC_congr hr (ls_set hC h0 hi)
  generalize setR m (fgt C i0) = S at *
  clear hz hp hC e0
  go_enter Tryz.func13, Tryz.ntmps13
  go_wp2_with (first
    | (go_at_call 46; ((with_reducible refine (HI.out _).mono ?_); rintro e w1 ⟨rfl, hb1⟩); have Y1 := Lib.hid (Y.out.below hb1); have x0 := Y1.out.1.cell0; have x1 := Y1.out.1.cell1; have x6 := Y1.out.1.lt; clear hb1)
    | (go_at_call 47; have hy1 := Y1.out.2.2; ((with_reducible refine (HL.out _ hy1).mono ?_); rintro e w2 ⟨A2, c2, rfl, hz2, hb2⟩); have Y2 := Lib.hid (Y1.out.below hb2); have HZ2 := Lib.hid hz2; have x2 := Y2.out.2.1.cell0; have x3 := Y2.out.2.1.cell1; have x4 := Y2.out.2.1.frozen0; have x5 := Y2.out.2.1.frozen1; have x7 := Y2.out.2.1.lt; clear hb2 hz2))
  exact yz_ret rfl rfl rfl Y2.out HZ2.out
theorem rforget_any (h0 : 0 < m) (h7 : m ≤ 7) (hz : ZRes w base m R (zoneV ((m : Int) - 1) A (rlen m R) c)) :
    Calls Tryz.prog 13 #[zoneV ((m : Int) - 1) A (rlen m R) c, .int .i64 i] w (RetY w m (fgO m R i)) := by
  cases R with
  | none => exact rforget_out h0 hz rfl
  | some C =>
    cases k : namedB ((m : Int) - 1) i
    · rw [show fgO m (some C) i = some C from if_neg (by rw [k]; decide)]
      exact rforget_out h0 hz k
    · rw [show fgO m (some C) i = setR m (fgt C i.toNat) from if_pos k]
      obtain ⟨i0, rfl, h1, h2⟩ := named_nat k
      rw [Int.toNat_natCast]
      exact rforget_in h0 h7 h1 h2 hz
set_option maxRecDepth 100000 in
set_option maxHeartbeats 3200000 in
theorem rget_none (i j : Int) (W : World) (N : Int) : Calls Tryz.prog 20 #[zoneV N A 0 c, .int .i64 i, .int .i64 j] W (RetI W (-2305843009213693952)) := by
  have hb := zboxed W (.cells #[.int .i64 N, .slice A 0 c] 24)
  go_enter Tryz.func20, Tryz.ntmps20
  go_wp2_with (go_at_call 53; ((with_reducible refine (redge_any _).mono ?_); rintro e w1 ⟨rfl, rfl⟩))
  go_ret
  exact ⟨rfl, hb⟩
/-- One of the two is none of the zone's variables: which, and how, in the order in which it is asked. -/
theorem unknown {n i j : Int} (h : (knownB n i && knownB n j) = false) : decide (i < 0) = true ∨ (decide (i < 0) = false ∧ decide (n < i) = true) ∨ (decide (i < 0) = false ∧ decide (n < i) = false ∧ decide (j < 0) = true) ∨ (decide (i < 0) = false ∧ decide (n < i) = false ∧ decide (j < 0) = false ∧ decide (n < j) = true) := by
  simp only [knownB, Bool.and_eq_false_iff, decide_eq_false_iff_not, decide_eq_true_eq] at *
  omega
set_option maxRecDepth 100000 in
set_option maxHeartbeats 3200000 in
theorem rget_out (h0 : 0 < m) (i j : Int) (W : World) (h : (knownB ((m : Int) - 1) i && knownB ((m : Int) - 1) j) = false) : Calls Tryz.prog 20 #[zoneV ((m : Int) - 1) A (m * m) c, .int .i64 i, .int .i64 j] W (RetI W (-2305843009213693952)) := by
  have hb := zboxed W (.cells #[.int .i64 ((m : Int) - 1), .slice A (m * m) c] 24)
  have hmm : 0 < m * m := Nat.mul_pos h0 h0
  have q0 : (((m * m : Nat) : Int) == 0) = false := by simp; omega
  have q1 : decide (m * m = 0) = false := decide_eq_false (by omega)
  have q3 : ((m : Int) * (m : Int) == 0) = false := by rw [← Int.natCast_mul]; exact q0
  have q4 : decide ((m : Int) * (m : Int) = 0) = false := by rw [← Int.natCast_mul]; exact decide_eq_false (by omega)
  have HB := Lib.hid hb
  clear hb hmm
  rcases unknown h with d1 | ⟨d1, d2⟩ | ⟨d1, d2, d3⟩ | ⟨d1, d2, d3, d4⟩ <;> clear h
  all_goals
    go_enter Tryz.func20, Tryz.ntmps20
    go_wp2_with (go_at_call 53; ((with_reducible refine (redge_any _).mono ?_); rintro e w1 ⟨rfl, rfl⟩))
    go_ret
    exact ⟨rfl, HB.out⟩
set_option maxRecDepth 100000 in
set_option maxHeartbeats 3200000 in
theorem rget_in {w : World} {m g c i j : Nat} {C : Mat} (h7 : m ≤ 7) (hp : RP m g c C w) (hi : i < m) (hj : j < m) :
    Calls Tryz.prog 20 #[zoneV ((m : Int) - 1) (some ⟨g, 0, none⟩) (m * m) c, .int .i64 (i : Int), .int .i64 (j : Int)] w (RetI w (C i j)) := by
  obtain ⟨e1, e2, e3, e4⟩ := mul_idx h7 hi hj
  have hb := zboxed w (.cells #[.int .i64 ((m : Int) - 1), .slice (some ⟨g, 0, none⟩) (m * m) c] 24)
  have k := Duo.new w 24 (.int .i64 ((m : Int) - 1)) (.slice (some ⟨g, 0, none⟩) (m * m) c)
  have hat : ∀ t, t = i * m + j → (w.alloc (.cells #[.int .i64 ((m : Int) - 1), .slice (some ⟨g, 0, none⟩) (m * m) c] 24)).cell? ⟨g, t, none⟩ = some (.int .i64 (C i j)) ∧ g < (w.alloc (.cells #[.int .i64 ((m : Int) - 1), .slice (some ⟨g, 0, none⟩) (m * m) c] 24)).heap.size := fun t ht => by
    subst ht
    have := (hp.below hb).row
    exact ⟨(this.cellAt _ (by omega)).trans (by rw [List.getElem?_map, flat_at C hi hj]; rfl), (this.lt g rfl).2⟩
  have HB := Lib.hid hb
  obtain ⟨W1, hW1⟩ : ∃ W1, w.alloc (.cells #[.int .i64 ((m : Int) - 1), .slice (some ⟨g, 0, none⟩) (m * m) c] 24) = W1 := ⟨_, rfl⟩
  rw [hW1] at HB k hat
  have c0 := k.cell0
  have c1 := k.cell1
  have c2 := k.lt
  obtain ⟨x, hx⟩ : ∃ x, C i j = x := ⟨_, rfl⟩
  rw [hx] at hat ⊢
  obtain ⟨t, ht⟩ : ∃ t, i * m + j = t := ⟨_, rfl⟩
  obtain ⟨c3, c4⟩ := hat t ht.symm
  rw [ht] at e1 e4
  have q0 : (((m * m : Nat) : Int) == 0) = false := by simp; omega
  have q1 : decide (m * m = 0) = false := decide_eq_false (by omega)
  have q3 : ((m : Int) * (m : Int) == 0) = false := by rw [← Int.natCast_mul]; exact q0
  have q4 : decide ((m : Int) * (m : Int) = 0) = false := by rw [← Int.natCast_mul]; exact decide_eq_false (by omega)
  have d1 : decide ((i : Int) < 0) = false := decide_eq_false (by omega)
  have d2 : decide ((m : Int) - 1 < (i : Int)) = false := decide_eq_false (by omega)
  have d3 : decide ((j : Int) < 0) = false := decide_eq_false (by omega)
  have d4 : decide ((m : Int) - 1 < (j : Int)) = false := decide_eq_false (by omega)
  have e5 : (t : Int) < ((m * m : Nat) : Int) := by omega
  have e6 : (t : Int) < (m : Int) * (m : Int) := by rw [← Int.natCast_mul]; exact e5
  have hw0 : IntKind.i64.wrap (m : Int) = (m : Int) := IntWalk.i64_in _ (by omega)
  have hw1 : IntKind.i64.wrap ((i : Int) * (m : Int)) = (i : Int) * (m : Int) := IntWalk.i64_in _ (by omega)
  have hw2 : IntKind.i64.wrap ((i : Int) * (m : Int) + (j : Int)) = (t : Int) := by rw [e1]; exact IntWalk.i64_in _ (by omega)
  have hw3 : IntKind.i64.wrap (t : Int) = (t : Int) := IntWalk.i64_in _ (by omega)
  clear hat k hb hx ht hp hi hj
  go_enter Tryz.func20, Tryz.ntmps20
  go_wp2_with fail
  go_ret
  exact ⟨rfl, HB.out⟩
theorem known_nat {n : Nat} {i : Int} (k : knownB ((n : Int) - 1) i = true) : ∃ a : Nat, i = a ∧ a < n := by
  simp [knownB] at k
  exact ⟨i.toNat, by omega, by omega⟩
theorem rget_any (h0 : 0 < m) (h7 : m ≤ 7) (hz : ZRes w base m R (zoneV ((m : Int) - 1) A (rlen m R) c)) :
    Calls Tryz.prog 20 #[zoneV ((m : Int) - 1) A (rlen m R) c, .int .i64 i, .int .i64 j] w (RetI w (getO m R i j)) := by
  cases R with
  | none => exact rget_none i j w _
  | some C =>
    obtain ⟨g, rfl, hp, -⟩ := rp_of hz
    cases k : (knownB ((m : Int) - 1) i && knownB ((m : Int) - 1) j)
    · rw [show getO m (some C) i j = -2305843009213693952 from if_neg (by rw [k]; decide)]
      exact rget_out h0 i j w k
    · rw [show getO m (some C) i j = C i.toNat j.toNat from if_pos k]
      rw [Bool.and_eq_true] at k
      obtain ⟨a, rfl, ha⟩ := known_nat k.1
      obtain ⟨b, rfl, hb⟩ := known_nat k.2
      rw [Int.toNat_natCast, Int.toNat_natCast]
      exact rget_in h7 hp ha hb
end
end Go.Proofs.YtlddelnbjihhgaaGreatDoor

/- The contract of the document's Guard: any right zone, any numbers. -/
namespace Go.Proofs.YtlddelnbjihhgaaGreatDoor
open Go.RowKit
attribute [local go_sem ↓] Go.wp_at_zero Go.wp_at_succ

section
variable {w : World} {m : Nat} {R : Option Mat} {A : Option Addr} {base c : Nat} {i j x : Int}
theorem rbottom_n (h0 : 0 < m) (h7 : m ≤ 7) (W : World) : Calls Tryz.prog 24 #[.int .i64 ((m : Int) - 1)] W fun e w' => e = .returned (zoneV ((m : Int) - 1) none 0 0) ∧ Below W.heap.size W w' := by
  have h := rbottom_any ((m : Int) - 1) W
  rw [show botN ((m : Int) - 1) = (m : Int) - 1 from by unfold botN; rw [if_pos ((mayB_iff _).2 (by omega))]] at h
  exact h
set_option maxRecDepth 100000 in
set_option maxHeartbeats 1600000 in
theorem rguard_none (hz : ZRes w base m none (zoneV ((m : Int) - 1) A (rlen m none) c)) :
    Calls Tryz.prog 16 #[zoneV ((m : Int) - 1) A (rlen m none) c, .int .i64 i, .int .i64 j, .int .i64 x] w (RetY w m none) := by
  have e0 : rlen m (none : Option Mat) = 0 := rfl
  rw [e0] at hz ⊢
  obtain ⟨W2, hW2, k0, k1, hb2, hs2⟩ := two_boxes_r w (.int .i64 ((m : Int) - 1)) (.slice A 0 c) (.int .i64 0) (.slice none 0 0)
  have Y : Hid (Yz w W2 _ _) := Lib.hid ⟨k0, k1, hb2⟩
  have HZ := Lib.hid (hz.below hb2)
  clear k0 k1 hb2
  have x0 := Y.out.1.cell0
  have x1 := Y.out.1.cell1
  have x2 := Y.out.2.1.cell0
  have x3 := Y.out.2.1.cell1
  have x4 := Y.out.2.1.frozen0
  have x5 := Y.out.2.1.frozen1
  have x6 := Y.out.2.1.lt
  have x7 := Y.out.1.lt
  clear hz
  go_enter Tryz.func16, Tryz.ntmps16
  go_wp2_with fail
  exact yz_ret rfl rfl rfl Y.out HZ.out
set_option maxRecDepth 100000 in
set_option maxHeartbeats 3200000 in
theorem rguard_out {C : Mat} (h0 : 0 < m) (hz : ZRes w base m (some C) (zoneV ((m : Int) - 1) A (m * m) c)) (h : (knownB ((m : Int) - 1) i && knownB ((m : Int) - 1) j) = false) :
    Calls Tryz.prog 16 #[zoneV ((m : Int) - 1) A (m * m) c, .int .i64 i, .int .i64 j, .int .i64 x] w (RetY w m (some C)) := by
  obtain ⟨W2, hW2, k0, k1, hb2, hs2⟩ := two_boxes_r w (.int .i64 ((m : Int) - 1)) (.slice A (m * m) c) (.int .i64 0) (.slice none 0 0)
  have Y : Hid (Yz w W2 _ _) := Lib.hid ⟨k0, k1, hb2⟩
  have HZ := Lib.hid (hz.below hb2)
  clear k0 k1 hb2
  have x0 := Y.out.1.cell0
  have x1 := Y.out.1.cell1
  have x2 := Y.out.2.1.cell0
  have x3 := Y.out.2.1.cell1
  have x4 := Y.out.2.1.frozen0
  have x5 := Y.out.2.1.frozen1
  have x6 := Y.out.2.1.lt
  have x7 := Y.out.1.lt
  have hmm : 0 < m * m := Nat.mul_pos h0 h0
  have q0 : (((m * m : Nat) : Int) == 0) = false := by simp; omega
  have q1 : decide (m * m = 0) = false := decide_eq_false (by omega)
  have q3 : ((m : Int) * (m : Int) == 0) = false := by rw [← Int.natCast_mul]; exact q0
  have q4 : decide ((m : Int) * (m : Int) = 0) = false := by rw [← Int.natCast_mul]; exact decide_eq_false (by omega)
  clear hz hmm
  rcases unknown h with d1 | ⟨d1, d2⟩ | ⟨d1, d2, d3⟩ | ⟨d1, d2, d3, d4⟩ <;> clear h
  all_goals
    go_enter Tryz.func16, Tryz.ntmps16
    go_wp2_with fail
    exact yz_ret rfl rfl rfl Y.out HZ.out
set_option maxRecDepth 100000 in
set_option maxHeartbeats 3200000 in
theorem rguard_far {C : Mat} {i j : Nat} (h0 : 0 < m) (h7 : m ≤ 7) (hi : i < m) (hj : j < m) (hx : x < -2305843009213693952) :
    Calls Tryz.prog 16 #[zoneV ((m : Int) - 1) A (m * m) c, .int .i64 (i : Int), .int .i64 (j : Int), .int .i64 x] w (RetY w m (setR m (grd C i j x))) := by
  rw [grd_none h0 hi hj hx]
  have Y := Lib.hid (yz_new w (.int .i64 ((m : Int) - 1)) (.slice A (m * m) c))
  have HBt := Lib.hid (fun W => rbottom_n h0 h7 W)
  have x0 := Y.out.1.cell0
  have x1 := Y.out.1.cell1
  have x7 := Y.out.1.lt
  have hmm : 0 < m * m := Nat.mul_pos h0 h0
  have q0 : (((m * m : Nat) : Int) == 0) = false := by simp; omega
  have q1 : decide (m * m = 0) = false := decide_eq_false (by omega)
  have q3 : ((m : Int) * (m : Int) == 0) = false := by rw [← Int.natCast_mul]; exact q0
  have q4 : decide ((m : Int) * (m : Int) = 0) = false := by rw [← Int.natCast_mul]; exact decide_eq_false (by omega)
  have d1 : decide ((i : Int) < 0) = false := decide_eq_false (by omega)
  have d2 : decide ((m : Int) - 1 < (i : Int)) = false := decide_eq_false (by omega)
  have d3 : decide ((j : Int) < 0) = false := decide_eq_false (by omega)
  have d4 : decide ((m : Int) - 1 < (j : Int)) = false := decide_eq_false (by omega)
  have d5 : decide (x < -2305843009213693952) = true := decide_eq_true hx
  clear hmm
  go_enter Tryz.func16, Tryz.ntmps16
  go_wp2_with (first
    | (go_at_call 53; ((with_reducible refine (redge_any _).mono ?_); rintro e w1 ⟨rfl, rfl⟩))
    | (go_at_call 24; ((with_reducible refine (HBt.out _).mono ?_); rintro e w1 ⟨rfl, hb1⟩); have Y1 := Lib.hid (Y.out.below hb1); have y2 := Y1.out.2.1.cell0; have y3 := Y1.out.2.1.cell1; have y4 := Y1.out.2.1.frozen0; have y5 := Y1.out.2.1.frozen1; have y6 := Y1.out.2.1.lt; clear hb1))
  exact yz_ret (m := m) (S := none) (b1 := 0) rfl rfl rfl Y1.out rfl
set_option maxRecDepth 100000 in
set_option maxHeartbeats 3200000 in
/-- with, and Close of it. -/
theorem rguard_in {g : Nat} {C : Mat} {i j : Nat} (h0 : 0 < m) (h7 : m ≤ 7) (hi : i < m) (hj : j < m) (hx : -2305843009213693952 ≤ x) (hC : Closed m C) (hp : RZ m g c C base w) :
    Calls Tryz.prog 16 #[zoneV ((m : Int) - 1) (some ⟨g, 0, none⟩) (m * m) c, .int .i64 (i : Int), .int .i64 (j : Int), .int .i64 x] w (RetY w m (setR m (grd C i j x))) := by
  have Y := Lib.hid (yz_new w (.int .i64 ((m : Int) - 1)) (.slice (some ⟨g, 0, none⟩) (m * m) c))
  have HWi : Hid (∀ W, Below w.heap.size w W → Calls Tryz.prog 52 #[zoneV ((m : Int) - 1) (some ⟨g, 0, none⟩) (m * m) c, .int .i64 (i : Int), .int .i64 (j : Int), .int .i64 x] W (RetRZ W m (grd C i j x))) := Lib.hid fun W hb => rwith_any h0 h7 hi hj (hp.below hb)
  have HCl : Hid (∀ W b g5 c5, RZ m g5 c5 (grd C i j x) b W → Calls Tryz.prog 33 #[zoneV ((m : Int) - 1) (some ⟨g5, 0, none⟩) (m * m) c5] W (RetC W m (setR m (grd C i j x)))) := Lib.hid fun W b g5 c5 h => rclose_rz h0 h7 (grd_bd (closed_bd hC) hx) h
  generalize setR m (grd C i j x) = S at *
  generalize grd C i j x = E at *
  have x0 := Y.out.1.cell0
  have x1 := Y.out.1.cell1
  have x7 := Y.out.1.lt
  have hmm : 0 < m * m := Nat.mul_pos h0 h0
  have q0 : (((m * m : Nat) : Int) == 0) = false := by simp; omega
  have q1 : decide (m * m = 0) = false := decide_eq_false (by omega)
  have q3 : ((m : Int) * (m : Int) == 0) = false := by rw [← Int.natCast_mul]; exact q0
  have q4 : decide ((m : Int) * (m : Int) = 0) = false := by rw [← Int.natCast_mul]; exact decide_eq_false (by omega)
  have d1 : decide ((i : Int) < 0) = false := decide_eq_false (by omega)
  have d2 : decide ((m : Int) - 1 < (i : Int)) = false := decide_eq_false (by omega)
  have d3 : decide ((j : Int) < 0) = false := decide_eq_false (by omega)
  have d4 : decide ((m : Int) - 1 < (j : Int)) = false := decide_eq_false (by omega)
  have d5 : decide (x < -2305843009213693952) = false := decide_eq_false (by omega)
  clear hmm hp hC
  go_enter Tryz.func16, Tryz.ntmps16
  go_wp2_with (first
    | (go_at_call 53; ((with_reducible refine (redge_any _).mono ?_); rintro e w1 ⟨rfl, rfl⟩))
    | (go_at_call 52; have hy0 := Y.out.2.2; ((with_reducible refine (HWi.out _ hy0).mono ?_); rintro e w1 ⟨g5, c5, rfl, hr5, hb1⟩); have Y1 := Lib.hid (Y.out.below hb1); have HR5 := Lib.hid hr5; clear hb1 hr5)
    | (go_at_call 33; have hr5 := HR5.out; ((with_reducible refine (HCl.out _ _ _ _ hr5).mono ?_); rintro e w2 ⟨A2, c2, rfl, hz2, hb2⟩); have Y2 := Lib.hid (Y1.out.below hb2); have HZ2 := Lib.hid hz2; have y2 := Y2.out.2.1.cell0; have y3 := Y2.out.2.1.cell1; have y4 := Y2.out.2.1.frozen0; have y5 := Y2.out.2.1.frozen1; have y6 := Y2.out.2.1.lt; clear hb2 hz2))
  exact yz_ret rfl rfl rfl Y2.out HZ2.out
theorem rguard_any (h0 : 0 < m) (h7 : m ≤ 7) (hz : ZRes w base m R (zoneV ((m : Int) - 1) A (rlen m R) c)) :
    Calls Tryz.prog 16 #[zoneV ((m : Int) - 1) A (rlen m R) c, .int .i64 i, .int .i64 j, .int .i64 x] w (RetY w m (grdO m R i j x)) := by
  cases R with
  | none => exact rguard_none hz
  | some C =>
    cases k : (knownB ((m : Int) - 1) i && knownB ((m : Int) - 1) j)
    · rw [show grdO m (some C) i j x = some C from if_neg (by rw [k]; decide)]
      exact rguard_out h0 hz k
    · rw [show grdO m (some C) i j x = setR m (grd C i.toNat j.toNat x) from if_pos k]
      rw [Bool.and_eq_true] at k
      obtain ⟨a, rfl, ha⟩ := known_nat k.1
      obtain ⟨b, rfl, hb⟩ := known_nat k.2
      rw [Int.toNat_natCast, Int.toNat_natCast]
      by_cases hx : x < -2305843009213693952
      · exact rguard_far h0 h7 ha hb hx
      · obtain ⟨g, rfl, hp, hC⟩ := rp_of hz
        exact rguard_in h0 h7 ha hb (by omega) hC ⟨hp.row⟩
end
end Go.Proofs.YtlddelnbjihhgaaGreatDoor

/- The contract of the document's Copy: any right zone, any numbers; where nothing is moved on. -/
namespace Go.Proofs.YtlddelnbjihhgaaGreatDoor
open Go.RowKit
attribute [local go_sem ↓] Go.wp_at_zero Go.wp_at_succ

section
variable {w : World} {m : Nat} {R : Option Mat} {A : Option Addr} {base c : Nat} {i j x : Int}
set_option maxRecDepth 100000 in
set_option maxHeartbeats 1600000 in
theorem rcopy_out (h0 : 0 < m) (hz : ZRes w base m R (zoneV ((m : Int) - 1) A (rlen m R) c)) (hi : isO m R i = false ∨ (isO m R i = true ∧ isO m R j = false)) :
    Calls Tryz.prog 15 #[zoneV ((m : Int) - 1) A (rlen m R) c, .int .i64 i, .int .i64 j, .int .i64 x] w (RetY w m R) := by
  have Y := Lib.hid (yz_new w (.int .i64 ((m : Int) - 1)) (.slice A (rlen m R) c))
  have HZ := Lib.hid (hz.below Y.out.2.2)
  have HI : Hid (∀ W, Calls Tryz.prog 46 #[zoneV ((m : Int) - 1) A (rlen m R) c, .int .i64 i] W (RetB W (isO m R i))) := Lib.hid fun W => ris_any h0 i W
  have HJ : Hid (∀ W, Calls Tryz.prog 46 #[zoneV ((m : Int) - 1) A (rlen m R) c, .int .i64 j] W (RetB W (isO m R j))) := Lib.hid fun W => ris_any h0 j W
  obtain ⟨L, hL⟩ : ∃ L, rlen m R = L := ⟨_, rfl⟩
  have HL := Lib.hid hL
  rw [hL] at Y HI HJ
  clear hz
  rw [hL]
  clear hL
  generalize isO m R i = bi at *
  generalize isO m R j = bj at *
  rcases hi with rfl | ⟨rfl, rfl⟩
  · go_enter Tryz.func15, Tryz.ntmps15
    go_wp2_with (go_at_call 46; ((with_reducible refine (HI.out _).mono ?_); rintro e w1 ⟨rfl, hb1⟩); have Y1 := Lib.hid (Y.out.below hb1); have HZ1 := Lib.hid (HZ.out.below (by have := HL.out; subst this; exact hb1)); have x0 := Y1.out.1.cell0; have x1 := Y1.out.1.cell1; have x2 := Y1.out.2.1.cell0; have x3 := Y1.out.2.1.cell1; have x4 := Y1.out.2.1.frozen0; have x5 := Y1.out.2.1.frozen1; have x6 := Y1.out.2.1.lt; have x7 := Y1.out.1.lt; clear hb1)
    have := HL.out
    subst this
    exact yz_ret rfl rfl rfl Y1.out HZ1.out
  · go_enter Tryz.func15, Tryz.ntmps15
    go_wp2_with (first
      | (go_at_call 46; ((with_reducible refine (HI.out _).mono ?_); rintro e w1 ⟨rfl, hb1⟩); have Y1 := Lib.hid (Y.out.below hb1); have HZ1 := Lib.hid (HZ.out.below (by have := HL.out; subst this; exact hb1)); have x0 := Y1.out.1.cell0; have x1 := Y1.out.1.cell1; have x7 := Y1.out.1.lt; clear hb1 HI)
      | (go_at_call 46; ((with_reducible refine (HJ.out _).mono ?_); rintro e w2 ⟨rfl, hb2⟩); have Y2 := Lib.hid (Y1.out.below hb2); have HZ2 := Lib.hid (HZ1.out.below (by have := HL.out; subst this; exact hb2)); have y0 := Y2.out.1.cell0; have y1 := Y2.out.1.cell1; have x2 := Y2.out.2.1.cell0; have x3 := Y2.out.2.1.cell1; have x4 := Y2.out.2.1.frozen0; have x5 := Y2.out.2.1.frozen1; have x6 := Y2.out.2.1.lt; have y7 := Y2.out.1.lt; clear hb2))
    have := HL.out
    subst this
    exact yz_ret rfl rfl rfl Y2.out HZ2.out
theorem ris_in {C : Mat} {i0 : Nat} (h0 : 0 < m) (h1 : 1 ≤ i0) (hi : i0 < m) (W : World) : Calls Tryz.prog 46 #[zoneV ((m : Int) - 1) A (rlen m (some C)) c, .int .i64 (i0 : Int)] W (RetB W true) := by
  have q := ris_any (A := A) (c := c) (R := some C) h0 (i0 : Int) W
  rw [show isO m (some C) (i0 : Int) = true from by show namedB _ _ = true; simp [namedB]; omega] at q
  exact q
set_option maxRecDepth 100000 in
set_option maxHeartbeats 3200000 in
theorem rcopy_far {i0 j0 : Nat} (h0 : 0 < m) (h7 : m ≤ 7) (hi1 : 1 ≤ i0) (hi : i0 < m) (hj1 : 1 ≤ j0) (hj : j0 < m) (hx : x < -2305843009213693952 ∨ 2305843009213693952 < x) :
    Calls Tryz.prog 15 #[zoneV ((m : Int) - 1) A (m * m) c, .int .i64 (i0 : Int), .int .i64 (j0 : Int), .int .i64 x] w (RetY w m none) := by
  have Y := Lib.hid (yz_new w (.int .i64 ((m : Int) - 1)) (.slice A (m * m) c))
  have HI : Hid (∀ W, Calls Tryz.prog 46 #[zoneV ((m : Int) - 1) A (m * m) c, .int .i64 (i0 : Int)] W (RetB W true)) := Lib.hid fun W => ris_in (C := far) h0 hi1 hi W
  have HJ : Hid (∀ W, Calls Tryz.prog 46 #[zoneV ((m : Int) - 1) A (m * m) c, .int .i64 (j0 : Int)] W (RetB W true)) := Lib.hid fun W => ris_in (C := far) h0 hj1 hj W
  have HBt := Lib.hid (fun W => rbottom_n h0 h7 W)
  have hwT : IntKind.i64.wrap (-2305843009213693952) = -2305843009213693952 := IntWalk.i64_in _ (by omega)
  have hwP : IntKind.i64.wrap 2305843009213693952 = 2305843009213693952 := IntWalk.i64_in _ (by omega)
  have hx' : decide (x < -2305843009213693952) = true ∨ (decide (x < -2305843009213693952) = false ∧ decide (2305843009213693952 < x) = true) := by
    by_cases q : x < -2305843009213693952
    · exact .inl (decide_eq_true q)
    · exact .inr ⟨decide_eq_false q, decide_eq_true (by omega)⟩
  clear hx
  rcases hx' with d1 | ⟨d1, d2⟩
  all_goals
    go_enter Tryz.func15, Tryz.ntmps15
    go_wp2_with (first
      | (go_at_call 46; ((with_reducible refine (HI.out _).mono ?_); rintro e w1 ⟨rfl, hb1⟩); have Y1 := Lib.hid (Y.out.below hb1); have x0 := Y1.out.1.cell0; have x1 := Y1.out.1.cell1; have x7 := Y1.out.1.lt; clear hb1 HI)
      | (go_at_call 46; ((with_reducible refine (HJ.out _).mono ?_); rintro e w2 ⟨rfl, hb2⟩); have Y2 := Lib.hid (Y1.out.below hb2); have y0 := Y2.out.1.cell0; have y1 := Y2.out.1.cell1; have y7 := Y2.out.1.lt; clear hb2)
      | (go_at_call 50; ((with_reducible refine (rtop_any _).mono ?_); rintro e w3 ⟨rfl, rfl⟩))
      | (go_at_call 24; ((with_reducible refine (HBt.out _).mono ?_); rintro e w4 ⟨rfl, hb4⟩); have Y3 := Lib.hid (Y2.out.below hb4); have x2 := Y3.out.2.1.cell0; have x3 := Y3.out.2.1.cell1; have x4 := Y3.out.2.1.frozen0; have x5 := Y3.out.2.1.frozen1; have x6 := Y3.out.2.1.lt; clear hb4))
    exact yz_ret (m := m) (S := none) (b1 := 0) rfl rfl rfl Y3.out rfl
set_option maxRecDepth 100000 in
set_option maxHeartbeats 3200000 in
theorem rcopy_two {g i0 j0 : Nat} {C : Mat} (h0 : 0 < m) (h7 : m ≤ 7) (hi1 : 1 ≤ i0) (hi : i0 < m) (hj1 : 1 ≤ j0) (hj : j0 < m) (hij : i0 ≠ j0) (hx : -2305843009213693952 ≤ x ∧ x ≤ 2305843009213693952) (hC : Closed m C) (hp : RP m g c C w) :
    Calls Tryz.prog 15 #[zoneV ((m : Int) - 1) (some ⟨g, 0, none⟩) (m * m) c, .int .i64 (i0 : Int), .int .i64 (j0 : Int), .int .i64 x] w (RetY w m (setR m (cpyM m C i0 j0 x))) := by
  have Y := Lib.hid (yz_new w (.int .i64 ((m : Int) - 1)) (.slice (some ⟨g, 0, none⟩) (m * m) c))
  have HI : Hid (∀ W, Calls Tryz.prog 46 #[zoneV ((m : Int) - 1) (some ⟨g, 0, none⟩) (m * m) c, .int .i64 (i0 : Int)] W (RetB W true)) := Lib.hid fun W => ris_in (C := far) h0 hi1 hi W
  have HJ : Hid (∀ W, Calls Tryz.prog 46 #[zoneV ((m : Int) - 1) (some ⟨g, 0, none⟩) (m * m) c, .int .i64 (j0 : Int)] W (RetB W true)) := Lib.hid fun W => ris_in (C := far) h0 hj1 hj W
  have hwT : IntKind.i64.wrap (-2305843009213693952) = -2305843009213693952 := IntWalk.i64_in _ (by omega)
  have hwP : IntKind.i64.wrap 2305843009213693952 = 2305843009213693952 := IntWalk.i64_in _ (by omega)
  have hwx : IntKind.i64.wrap (-x) = -x := IntWalk.i64_in _ (by omega)
  have d1 : decide (x < -2305843009213693952) = false := decide_eq_false (by omega)
  have d2 : decide (2305843009213693952 < x) = false := decide_eq_false (by omega)
  have d3 : ((i0 : Int) == (j0 : Int)) = false := by simp; omega
  have d4 : ((i0 : Int) != (j0 : Int)) = true := by simp; omega
  have HLo : Hid (∀ W, Below w.heap.size w W → Calls Tryz.prog 47 #[zoneV ((m : Int) - 1) (some ⟨g, 0, none⟩) (m * m) c, .int .i64 (i0 : Int)] W (RetC W m (some (lev (lsM C i0) m)))) := Lib.hid fun W hb => by
    have q := rloose_any h0 h7 hi hC (hr := ⟨(hp.below hb).row⟩)
    rw [setR_yes (ls_alive hC h0 hi)] at q
    exact q
  have HEnd : Hid (SameO m (grdO m (setR m (grd (lev (lsM C i0) m) i0 j0 x)) (j0 : Int) (i0 : Int) (-x)) (setR m (cpyM m C i0 j0 x))) := Lib.hid (cpy_doc hC h0 hi hj)
  have hG1 : ∀ F : Mat, grdO m (some F) (i0 : Int) (j0 : Int) x = setR m (grd F i0 j0 x) := fun F => by
    have k : (knownB ((m : Int) - 1) (i0 : Int) && knownB ((m : Int) - 1) (j0 : Int)) = true := by simp [knownB]; omega
    rw [show grdO m (some F) (i0 : Int) (j0 : Int) x = setR m (grd F (i0 : Int).toNat (j0 : Int).toNat x) from if_pos k, Int.toNat_natCast, Int.toNat_natCast]
  generalize setR m (cpyM m C i0 j0 x) = S at *
  generalize lev (lsM C i0) m = F at *
  have HG1 : Hid (∀ W b A2 c2, ZRes W b m (some F) (zoneV ((m : Int) - 1) A2 (rlen m (some F)) c2) → Calls Tryz.prog 16 #[zoneV ((m : Int) - 1) A2 (rlen m (some F)) c2, .int .i64 (i0 : Int), .int .i64 (j0 : Int), .int .i64 x] W (RetY W m (setR m (grd F i0 j0 x)))) := Lib.hid fun W b A2 c2 q => by
    rw [← hG1]
    exact rguard_any h0 h7 q
  generalize setR m (grd F i0 j0 x) = R1 at *
  have HG2 : Hid (∀ W b A2 c2, ZRes W b m R1 (zoneV ((m : Int) - 1) A2 (rlen m R1) c2) → Calls Tryz.prog 16 #[zoneV ((m : Int) - 1) A2 (rlen m R1) c2, .int .i64 (j0 : Int), .int .i64 (i0 : Int), .int .i64 (-x)] W (RetY W m S)) := Lib.hid fun W b A2 c2 q =>
    (rguard_any h0 h7 q).mono fun _ _ hr => retY_congr hr HEnd.out
  clear hC hp hG1
  go_enter Tryz.func15, Tryz.ntmps15
  go_wp2_with (first
      | (go_at_call 46; ((with_reducible refine (HI.out _).mono ?_); rintro e w1 ⟨rfl, hb1⟩); have Y1 := Lib.hid (Y.out.below hb1); have x0 := Y1.out.1.cell0; have x1 := Y1.out.1.cell1; have x7 := Y1.out.1.lt; clear hb1 HI)
      | (go_at_call 46; ((with_reducible refine (HJ.out _).mono ?_); rintro e w2 ⟨rfl, hb2⟩); have Y2 := Lib.hid (Y1.out.below hb2); have y0 := Y2.out.1.cell0; have y1 := Y2.out.1.cell1; have y7 := Y2.out.1.lt; clear hb2)
      | (go_at_call 50; ((with_reducible refine (rtop_any _).mono ?_); rintro e w3 ⟨rfl, rfl⟩))
      | (go_at_call 47; have hy := Y2.out.2.2; ((with_reducible refine (HLo.out _ hy).mono ?_); rintro e w4 ⟨A4, c4, rfl, hz4, hb4⟩); have Y3 := Lib.hid (Y2.out.below hb4); have Z4 := Lib.hid hz4; clear hb4 hz4)
      | (go_at_call 16; have hz4 := Z4.out; ((with_reducible refine (HG1.out _ _ _ _ hz4).mono ?_); rintro e w5 ⟨A5, c5, rfl, hz5, hb5⟩); have Y4 := Lib.hid (Y3.out.below hb5); have Z5 := Lib.hid hz5; clear hb5 hz5)
      | (go_at_call 16; have hz5 := Z5.out; ((with_reducible refine (HG2.out _ _ _ _ hz5).mono ?_); rintro e w6 ⟨A6, c6, rfl, hz6, hb6⟩); have Y5 := Lib.hid (Y4.out.below hb6); have Z6 := Lib.hid hz6; have x2 := Y5.out.2.1.cell0; have x3 := Y5.out.2.1.cell1; have x4 := Y5.out.2.1.frozen0; have x5 := Y5.out.2.1.frozen1; have x6 := Y5.out.2.1.lt; clear hb6 hz6))
  exact yz_ret rfl rfl rfl Y5.out Z6.out
end
end Go.Proofs.YtlddelnbjihhgaaGreatDoor

/- The contract of the document's Copy where a variable is moved on, and of any Copy. -/
namespace Go.Proofs.YtlddelnbjihhgaaGreatDoor
open Go.RowKit
attribute [local go_sem ↓] Go.wp_at_zero Go.wp_at_succ

/-- Where Copy stands: the bounds of i with the first k are moved on. -/
def shUp (C : Mat) (i : Nat) (c : Int) (k : Nat) : Mat := fun a b => if a = i ∧ b < k ∧ a ≠ b then C a b + c else if b = i ∧ a < k ∧ a ≠ b then C a b - c else C a b
theorem shUp_zero (C : Mat) (i : Nat) (c : Int) : shUp C i c 0 = C := by
  funext a b
  unfold shUp
  rw [if_neg (by omega), if_neg (by omega)]
theorem shUp_self (C : Mat) (i : Nat) (c : Int) : shUp C i c (i + 1) = shUp C i c i := by
  funext a b
  unfold shUp
  by_cases e : a = i ∧ b < i ∧ a ≠ b
  · rw [if_pos e, if_pos (by omega)]
  · rw [if_neg e, if_neg (by omega)]
    by_cases e2 : b = i ∧ a < i ∧ a ≠ b
    · rw [if_pos e2, if_pos (by omega)]
    · rw [if_neg e2, if_neg (by omega)]
theorem shUp_row {C : Mat} {i k : Nat} {c : Int} (_ : k ≠ i) : shUp C i c k i k = C i k := by
  unfold shUp
  rw [if_neg (by omega), if_neg (by omega)]
theorem shUp_col {C : Mat} {i k : Nat} {c x : Int} (h : k ≠ i) : upd (shUp C i c k) i k x k i = C k i := by
  unfold upd shUp
  rw [if_neg (by omega), if_neg (by omega), if_neg (by omega)]
theorem shUp_step {C : Mat} {i k : Nat} {c : Int} (h : k ≠ i) : upd (upd (shUp C i c k) i k (C i k + c)) k i (C k i - c) = shUp C i c (k + 1) := by
  funext a b
  unfold upd
  by_cases e1 : a = k ∧ b = i
  · obtain ⟨rfl, rfl⟩ := e1
    rw [if_pos ⟨rfl, rfl⟩]
    unfold shUp
    rw [if_neg (by omega), if_pos (by omega)]
  · rw [if_neg e1]
    by_cases e2 : a = i ∧ b = k
    · obtain ⟨rfl, rfl⟩ := e2
      rw [if_pos ⟨rfl, rfl⟩]
      unfold shUp
      rw [if_pos (by omega)]
    · rw [if_neg e2]
      unfold shUp
      exact (ite_congr (propext (show (a = i ∧ b < k ∧ a ≠ b) ↔ (a = i ∧ b < k + 1 ∧ a ≠ b) by omega)) (fun _ => rfl) fun _ => ite_congr (propext (show (b = i ∧ a < k ∧ a ≠ b) ↔ (b = i ∧ a < k + 1 ∧ a ≠ b) by omega)) (fun _ => rfl) fun _ => rfl)
theorem shUp_all {m : Nat} (C : Mat) (i : Nat) (c : Int) : Same m (shUp C i c m) (shf C i c) := fun a b ha hb => by
  unfold shUp shf
  by_cases ea : a = i <;> by_cases eb : b = i
  · rw [if_neg (by omega), if_neg (by omega), if_pos ea, if_pos eb]; omega
  · rw [if_pos (by omega), if_pos ea, if_neg eb]; omega
  · rw [if_neg (by omega), if_pos (by omega), if_neg ea, if_pos eb]; omega
  · rw [if_neg (by omega), if_neg (by omega), if_neg ea, if_neg eb]; omega
theorem zr_near {m : Nat} {f : Nat → Int} (h0 : 0 < m) (h7 : m ≤ 7) : zr ((m : Int) - 1) (m * m) f = setR m (nearM m f) := by
  obtain ⟨e1, e2⟩ := zm_of h0 h7
  unfold zr setR
  rw [e1, e2]
  simp
section
variable {w : World} {m : Nat} {R : Option Mat} {A : Option Addr} {base c : Nat} {i j x : Int}
/-- The document's Close of what was moved on. -/
theorem rclose_shf {W : World} {i g co b : Nat} {C : Mat} (h0 : 0 < m) (h7 : m ≤ 7) (hi1 : 1 ≤ i) (hi : i < m) (hx : -2305843009213693952 ≤ x ∧ x ≤ 2305843009213693952) (hC : Closed m C) (h : RZ m g co (shf C i x) b W) :
    Calls Tryz.prog 33 #[zoneV ((m : Int) - 1) (some ⟨g, 0, none⟩) (m * m) co] W (RetC W m (setR m (shf C i x))) := by
  have q := rclose_z (h.arg h7)
  rw [(zm_of h0 h7).2] at q
  refine q.mono fun _ _ hr => retC_congr hr ?_
  rw [zr_near h0 h7]
  refine shf_near hC hi1 hi h0 hx fun a b ha hb => ?_
  have e : nearM m (fl m (shf C i x)) a b = nearZ (shf C i x a b) := by
    show nearZ (shf C i x ((a * m + b) / m) ((a * m + b) % m)) = _
    rw [Nat.mul_comm a m, Nat.mul_add_div (by omega), Nat.mul_add_mod, Nat.div_eq_of_lt hb, Nat.mod_eq_of_lt hb, Nat.add_zero]
  rw [e]
  rcases nearZ_cases (shf C i x a b) with q | q | q <;> omega
set_option maxRecDepth 100000 in
set_option maxHeartbeats 6400000 in
theorem rcopy_one {g i : Nat} {C : Mat} (h0 : 0 < m) (h7 : m ≤ 7) (hi1 : 1 ≤ i) (hi : i < m) (hx : -2305843009213693952 ≤ x ∧ x ≤ 2305843009213693952) (hC : Closed m C) (hr : RZ m g c C 0 w) :
    Calls Tryz.prog 15 #[zoneV ((m : Int) - 1) (some ⟨g, 0, none⟩) (m * m) c, .int .i64 (i : Int), .int .i64 (i : Int), .int .i64 x] w (RetY w m (setR m (shf C i x))) := by
  obtain ⟨i0, hi0, hz0, hz1, hz2⟩ := info_parts zinfo3
  have hmm : 0 < m * m := Nat.mul_pos h0 h0
  have hmm2 : m * m ≤ 49 := Nat.mul_le_mul h7 h7
  have HI : Hid (∀ W, Calls Tryz.prog 46 #[zoneV ((m : Int) - 1) (some ⟨g, 0, none⟩) (m * m) c, .int .i64 (i : Int)] W (RetB W true)) := Lib.hid fun W => ris_in (C := far) h0 hi1 hi W
  have hwT : IntKind.i64.wrap (-2305843009213693952) = -2305843009213693952 := IntWalk.i64_in _ (by omega)
  have hwP : IntKind.i64.wrap 2305843009213693952 = 2305843009213693952 := IntWalk.i64_in _ (by omega)
  have d1 : decide (x < -2305843009213693952) = false := decide_eq_false (by omega)
  have d2 : decide (2305843009213693952 < x) = false := decide_eq_false (by omega)
  have Y := Lib.hid (yz_new w (.int .i64 ((m : Int) - 1)) (.slice (some ⟨g, 0, none⟩) (m * m) c))
  have HRow : Hid (∀ W, Yz w W (.int .i64 ((m : Int) - 1)) (.slice (some ⟨g, 0, none⟩) (m * m) c) → RowAt (W.alloc (.cells #[] 3)) (.slice (some ⟨g, 0, none⟩) (m * m) c) (m * m) ((flatL m C).map (Value.int .i64))) := Lib.hid fun W y =>
    rowAt_own ((hr.below y.2.2).below (zboxed W (.cells #[] 3))).row
  have HLit : Hid (∀ W, Yz w W (.int .i64 ((m : Int) - 1)) (.slice (some ⟨g, 0, none⟩) (m * m) c) → (W.alloc (.cells #[] 3)).ownsRow (w.heap.size + 2) 3 1 (.slice (some ⟨W.heap.size, 0, none⟩) 0 0) 0 [] ∧ w.heap.size + 2 ≤ (W.alloc (.cells #[] 3)).heap.size) := Lib.hid fun W y => by
    have hs := y.2.1.lt
    exact ⟨World.ownsRow_lit (base := w.heap.size + 2) (e := 3) (size := 1) W #[] 0 (by omega) (by unfold maxLen; omega) rfl, by rw [World.size_alloc]; omega⟩
  have HLen : Hid (((flatL m C).map (Value.int .i64)).length = m * m * 1 ∧ (0 + m * m ≤ maxLen ∧ (0 + m * m) * 8 ≤ 140737488355328)) := Lib.hid ⟨by rw [List.length_map, flat_len]; omega, by unfold maxLen; omega⟩
  have HQ : Hid (∀ W W4 go co, Yz w W (.int .i64 ((m : Int) - 1)) (.slice (some ⟨g, 0, none⟩) (m * m) c) → (W.alloc (.cells #[] 3)).grownBy W4 (some W.heap.size) → W4.ownsRow (w.heap.size + 2) 3 1 (.slice (some ⟨go, 0, none⟩) (m * m) co) (m * m) ((flatL m C).map (Value.int .i64)) → LT w m g c go co (shUp C i x 0) W4) := Lib.hid fun W W4 go co y hg ho => by
    have hb3 := zboxed W (.cells #[] 3)
    have hb : Below W.heap.size W W4 := hb3.grown hg hb3.size (fun k hk => by injection hk with hk; omega)
    exact ⟨y.1.below hb, y.2.1.below hb, y.2.2.trans (hb.mono y.2.2.size), by rw [shUp_zero]; exact ⟨ho⟩, (ho.lt go rfl).1⟩
  have HMm := Lib.hid hmm
  have HCl : Hid (∀ W b go co, RZ m go co (shf C i x) b W → Calls Tryz.prog 33 #[zoneV ((m : Int) - 1) (some ⟨go, 0, none⟩) (m * m) co] W (RetC W m (setR m (shf C i x)))) := Lib.hid fun W b go co h => rclose_shf h0 h7 hi1 hi hx hC h
  have HBd : Hid (∀ a b, a < m → b < m → -2305843009213693952 ≤ C a b ∧ C a b ≤ 2305843009213693952) := Lib.hid (closed_bd hC)
  have H7 := Lib.hid h7
  have HIm := Lib.hid hi
  have HX := Lib.hid hx
  have HW0 : Hid (IntKind.i64.wrap (m : Int) = (m : Int)) := Lib.hid (IntWalk.i64_in _ (by omega))
  clear hr hmm hC h0 hi hi1 hx
  go_enter Tryz.func15, Tryz.ntmps15
  go_wp2_with (first
      | (go_at_call 46; ((with_reducible refine (HI.out _).mono ?_); rintro e w1 ⟨rfl, hb1⟩); have Y1 := Lib.hid (Y.out.below hb1); have x0 := Y1.out.1.cell0; have x1 := Y1.out.1.cell1; have x7 := Y1.out.1.lt; clear hb1 Y)
      | (go_at_call 46; ((with_reducible refine (HI.out _).mono ?_); rintro e w2 ⟨rfl, hb2⟩); have Y2 := Lib.hid (Y1.out.below hb2); have y0 := Y2.out.1.cell0; have y1 := Y2.out.1.cell1; have y7 := Y2.out.1.lt; clear hb2)
      | (go_at_call 50; ((with_reducible refine (rtop_any _).mono ?_); rintro e w3 ⟨rfl, rfl⟩))
      | (at_builtin; have HL2 := HLit.out _ Y2.out; have HR2 := HRow.out _ Y2.out; refine wpList_append_rows rfl _ _ 22 rfl (w.heap.size + 2) 3 i0 (.int .i64 0) 1 8 Tryz.underlying22 hi0 hz0 hz1 hz2 rfl (by decide) _ _ _ rfl HL2.1 _ (m * m) ((flatL m C).map (Value.int .i64)) rfl HR2 HLen.out.1 (ints_one _) HLen.out.2.1 HLen.out.2.2 HL2.2 ?_; intro v5 w5 ho hg hv; (rw [Nat.zero_add, List.nil_append] at ho); obtain ⟨go, co, hv5, hcq⟩ := row_pos ho HMm.out; subst hv5; have K := Lib.hid (HQ.out _ _ _ _ Y2.out hg ho); clear ho hg hv HL2 HR2))
  clear x0 x1 x7 y0 y1 y7
  go_loopg [10] m (fun gk s wr => ∃ k : Nat, k + gk = m ∧ s = .int .i64 (k : Int) ∧ LT w m g c go co (shUp C i x k) wr)
  case atStart => exact ⟨0, by omega, rfl, K.out⟩
  case round =>
    rename Nat => g0
    obtain ⟨k, hk', rfl, hL⟩ := hrel
    have HK := Lib.hid hk'
    have M := Lib.hid hL
    clear hk' hL K
    have a0 := M.out.za.cell0
    have a1 := M.out.za.lt
    by_cases hkm : k < m
    · have d4 : decide ((k : Int) ≤ (m : Int) - 1) = true := decide_eq_true (by omega)
      have wk : IntKind.i64.wrap ((k : Int) + 1) = (k : Int) + 1 := IntWalk.i64_in _ (by have := H7.out; omega)
      by_cases hki : k = i
      · have d5 : ((k : Int) == (i : Int)) = true := by simp; omega
        have d6 : ((k : Int) != (i : Int)) = false := by simp; omega
        have MN := Lib.hid (show LT w m g c go co (shUp C i x (k + 1)) _ from by rw [hki, shUp_self, ← hki]; have := M.out; rw [← hki] at this; exact this)
        have HKI := Lib.hid hki
        clear hki
        go_wp2_with fail
        have hk' := HK.out
        go_roundg (g0 - 1)
        case measure => omega
        case rel => exact ⟨k + 1, by omega, by simp, MN.out⟩
      · have d5 : ((k : Int) == (i : Int)) = false := by simp; omega
        have d6 : ((k : Int) != (i : Int)) = true := by simp; omega
        have HKI := Lib.hid hki
        obtain ⟨e1, e2, e3, e4⟩ := mul_idx H7.out HIm.out hkm
        obtain ⟨f1, f2, f3, f4⟩ := mul_idx H7.out hkm HIm.out
        obtain ⟨t, ht⟩ : ∃ t, i * m + k = t := ⟨_, rfl⟩
        obtain ⟨u, hu⟩ : ∃ u, k * m + i = u := ⟨_, rfl⟩
        rw [ht] at e1 e4
        rw [hu] at f1 f4
        have HT := Lib.hid (And.intro ht hu)
        have hw0 := HW0.out
        have e5 : (t : Int) < ((m * m : Nat) : Int) := by omega
        have e6 : (t : Int) < (m : Int) * (m : Int) := by rw [← Int.natCast_mul]; exact e5
        have f5 : (u : Int) < ((m * m : Nat) : Int) := by omega
        have f6 : (u : Int) < (m : Int) * (m : Int) := by rw [← Int.natCast_mul]; exact f5
        have hw1 : IntKind.i64.wrap ((i : Int) * (m : Int)) = (i : Int) * (m : Int) := IntWalk.i64_in _ (by omega)
        have hw2 : IntKind.i64.wrap ((i : Int) * (m : Int) + (k : Int)) = (t : Int) := by rw [e1]; exact IntWalk.i64_in _ (by omega)
        have hw3 : IntKind.i64.wrap (t : Int) = (t : Int) := IntWalk.i64_in _ (by omega)
        have hw4 : IntKind.i64.wrap ((k : Int) * (m : Int)) = (k : Int) * (m : Int) := IntWalk.i64_in _ (by omega)
        have hw5 : IntKind.i64.wrap ((k : Int) * (m : Int) + (i : Int)) = (u : Int) := by rw [f1]; exact IntWalk.i64_in _ (by omega)
        have hw6 : IntKind.i64.wrap (u : Int) = (u : Int) := IntWalk.i64_in _ (by omega)
        have hb1 := HBd.out i k HIm.out hkm
        have hb2 := HBd.out k i hkm HIm.out
        have hx := HX.out
        have hv1 : IntKind.i64.wrap (C i k + x) = C i k + x := IntWalk.i64_in _ (by omega)
        have hv2 : IntKind.i64.wrap (C k i - x) = C k i - x := IntWalk.i64_in _ (by omega)
        have MN : Hid (∀ W, LT w m g c go co (upd (shUp C i x k) i k (C i k + x)) W → LT w m g c go co (shUp C i x (k + 1)) (W.setCell ⟨go, u, none⟩ (.int .i64 (C k i - x)))) := Lib.hid fun W h => by
          rw [← shUp_step HKI.out, ← hu]
          exact h.put hkm HIm.out _
        have MP : Hid (∀ W, LT w m g c go co (shUp C i x k) W → LT w m g c go co (upd (shUp C i x k) i k (C i k + x)) (W.setCell ⟨go, t, none⟩ (.int .i64 (C i k + x)))) := Lib.hid fun W h => by
          rw [← ht]
          exact h.put HIm.out hkm _
        have HA1 : Hid (∀ W, LT w m g c go co (shUp C i x k) W → W.cell? ⟨go, t, none⟩ = some (.int .i64 (C i k)) ∧ W.frozen? ⟨go, t, none⟩ = false ∧ go < W.heap.size) := Lib.hid fun W h => by have q := h.row.at_ HIm.out hkm; rw [shUp_row HKI.out, ht] at q; exact q
        have HA2 : Hid (∀ W, LT w m g c go co (upd (shUp C i x k) i k (C i k + x)) W → W.cell? ⟨go, u, none⟩ = some (.int .i64 (C k i)) ∧ W.frozen? ⟨go, u, none⟩ = false ∧ go < W.heap.size) := Lib.hid fun W h => by have q := h.row.at_ hkm HIm.out; rw [shUp_col HKI.out, hu] at q; exact q
        generalize upd (shUp C i x k) i k (C i k + x) = E1 at *
        generalize C i k = p at *
        generalize C k i = q at *
        clear ht hu hki e1 f1 hb1 hb2 hx
        go_wp2_with fail
        have MD := Lib.hid M.out.drew
        obtain ⟨b0, b1, b2⟩ := HA1.out _ MD.out
        have b3 := MD.out.za.cell0
        have b4 := MD.out.za.lt
        go_cut [] (fun wx => LT w m g c go co E1 wx)
        case first =>
          go_region
          all_goals go_wp2_with fail
          all_goals go_meet
          all_goals exact MP.out _ MD.out
        case rest =>
          have M1 := Lib.hid hcut.drew
          clear hcut MD M b0 b1 b2 b3 b4 a0 a1
          obtain ⟨b0, b1, b2⟩ := HA2.out _ M1.out
          have b3 := M1.out.za.cell0
          have b4 := M1.out.za.lt
          go_wp2_with fail
          go_region
          all_goals go_wp2_with fail
          all_goals
            have hk' := HK.out
            go_roundg (g0 - 1)
            case measure => omega
            case rel => exact ⟨k + 1, by omega, by simp, MN.out _ M1.out⟩
    · have d4 : decide ((k : Int) ≤ (m : Int) - 1) = false := decide_eq_false (by omega)
      have hke : k = m := by have := HK.out; omega
      have MN := Lib.hid (M.out.congr (E' := shf C i x) (by rw [hke]; exact shUp_all C i x))
      clear hke
      go_wp2_with (go_at_call 33; have hr5 := MN.out.row; ((with_reducible refine (HCl.out _ _ _ _ hr5).mono ?_); rintro e w6 ⟨A6, c6, rfl, hz6, hb6⟩); have HZ6 := Lib.hid hz6; have M6 := Lib.hid (MN.out.below hb6); have x0 := M6.out.zr.cell0; have x1 := M6.out.zr.cell1; have x2 := M6.out.zr.frozen0; have x3 := M6.out.zr.frozen1; have x4 := M6.out.zr.lt; clear hb6 hz6)
      exact yz_ret (a := .int .i64 ((m : Int) - 1)) (a' := .slice (some ⟨g, 0, none⟩) (m * m) c) rfl rfl rfl ⟨M6.out.za, M6.out.zr, M6.out.low⟩ HZ6.out
theorem rcopy_any (h0 : 0 < m) (h7 : m ≤ 7) (hz : ZRes w base m R (zoneV ((m : Int) - 1) A (rlen m R) c)) :
    Calls Tryz.prog 15 #[zoneV ((m : Int) - 1) A (rlen m R) c, .int .i64 i, .int .i64 j, .int .i64 x] w (RetY w m (cpyO m R i j x)) := by
  cases R with
  | none => exact rcopy_out h0 hz (.inl rfl)
  | some C =>
    cases k1 : namedB ((m : Int) - 1) i
    · rw [show cpyO m (some C) i j x = some C from if_neg (by rw [k1]; simp)]
      exact rcopy_out h0 hz (.inl k1)
    · cases k2 : namedB ((m : Int) - 1) j
      · rw [show cpyO m (some C) i j x = some C from if_neg (by rw [k2]; simp)]
        exact rcopy_out h0 hz (.inr ⟨k1, k2⟩)
      · rw [show cpyO m (some C) i j x = (if x < -2305843009213693952 ∨ 2305843009213693952 < x then none else if i = j then setR m (shf C i.toNat x) else setR m (cpyM m C i.toNat j.toNat x)) from if_pos (by rw [k1, k2]; rfl)]
        obtain ⟨a, rfl, a1, a2⟩ := named_nat k1
        obtain ⟨b, rfl, b1, b2⟩ := named_nat k2
        rw [Int.toNat_natCast, Int.toNat_natCast]
        by_cases hx : x < -2305843009213693952 ∨ 2305843009213693952 < x
        · rw [if_pos hx]
          exact rcopy_far h0 h7 a1 a2 b1 b2 hx
        · rw [if_neg hx]
          obtain ⟨g, rfl, hp, hC⟩ := rp_of hz
          by_cases hab : a = b
          · subst hab
            rw [if_pos rfl]
            exact rcopy_one h0 h7 a1 a2 (by omega) hC ⟨hp.row⟩
          · rw [if_neg (by omega)]
            exact rcopy_two h0 h7 a1 a2 b1 b2 hab (by omega) hC hp
end
end Go.Proofs.YtlddelnbjihhgaaGreatDoor
