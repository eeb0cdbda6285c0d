/- Put together of: TightNums, MovesMath, Forget, Shift, Copy, Set. -/
import Derived.Test.YtlkbapcienjdcaaDoorGHas
import Derived.Test.YtlkbapcienjdcaaDoorGSmall
import Derived.Test.YtlkbapcienjdcaaDoorGSp
/- ZoneTight: what Guard makes of a bound that is reached, and of one less; and the points that reach the ends. -/
namespace Go.Proofs.YtlkbapcienjdcaaDoor
open Go.RowKit

theorem grd_pt {m : Nat} {C : Mat} {p : Nat → Int} (hp : Pt m C p) {i j : Nat} {c : Int} (h : p i - p j ≤ c) : Pt m (grd C i j c) p := by
  refine ⟨hp.zero, hp.whole, fun a b ha hb => ?_⟩
  have h1 := hp.holds a b ha hb
  unfold grd upd
  split
  · rename_i e
    obtain ⟨rfl, rfl⟩ := e
    omega
  · exact h1
theorem tight_yes {m : Nat} {C : Mat} (hC : Closed m C) (h0 : 0 < m) {i j : Nat} (hi : i < m) (hj : j < m) : ∃ D, grdO m (some C) (j : Int) (i : Int) (-(C i j)) = some D := by
  rw [grdO_in hj hi]
  have hp := pt_col hC h0 hj
  have hg := grd_pt hp (i := j) (j := i) (c := -(C i j)) (by rw [if_pos hi, if_pos hj, hC.diag j hj]; omega)
  exact ⟨_, setR_yes (alive_pt hg).1⟩
theorem tight_no {m : Nat} {C : Mat} (h0 : 0 < m) {i j : Nat} (hi : i < m) (hj : j < m) : grdO m (some C) (j : Int) (i : Int) (-(C i j) - 1) = none := by
  rw [grdO_in hj hi]
  refine setR_no fun ha => ?_
  have hp := pt_of_lev (pt_col (lev_closed ha) h0 h0)
  have h1 := hp.holds j i hj hi
  have h2 := hp.holds i j hi hj
  have e1 : grd C j i (-(C i j) - 1) j i = min (C j i) (-(C i j) - 1) := by unfold grd upd; rw [if_pos ⟨rfl, rfl⟩]
  have e2 : grd C j i (-(C i j) - 1) i j ≤ C i j := by
    unfold grd upd
    split
    · rename_i e
      obtain ⟨e3, -⟩ := e
      subst e3
      omega
    · omega
  rw [e1] at h1
  omega
theorem outB_no {x : Int} (h : -1152921504606846976 ≤ x ∧ x ≤ 1152921504606846976) : outB x = false := by
  unfold outB
  rw [decide_eq_true h.1, decide_eq_true h.2]
  rfl
/-- A point of n numbers is in it. -/
theorem has_pt {m n : Nat} {C : Mat} {f : Nat → Int} {p : Nat → Int} (hl : n + 1 = m) (hp : Pt m C p) (hf : ∀ k, k < n → f k = p (k + 1)) : anyOut n f = false ∧ leB m (pmat (vof f)) C = true := by
  have hv : ∀ i, i < m → vof f i = p i := fun i hi => by
    unfold vof
    split
    · rename_i e; subst e; exact hp.zero.symm
    · rename_i e
      rw [hf (i - 1) (by omega)]
      congr 1
      omega
  refine ⟨anyOut_no fun k hk => outB_no ?_, (leB_iff _ _ _).2 fun i j hi hj => ?_⟩
  · rw [hf k hk]
    exact hp.whole (k + 1) (by omega)
  · unfold pmat
    rw [hv i hi, hv j hj]
    exact hp.holds i j hi hj
theorem high_pt {m n : Nat} {C : Mat} {f : Nat → Int} (hC : Closed m C) (hl : n + 1 = m) (hf : ∀ k, k < n → f k = C (k + 1) 0) : anyOut n f = false ∧ leB m (pmat (vof f)) C = true :=
  has_pt hl (pt_col hC (by omega) (show 0 < m by omega)) fun k hk => by
    rw [hf k hk, if_pos (by omega), hC.diag 0 (by omega)]
    omega
theorem low_pt {m n : Nat} {C : Mat} {f : Nat → Int} (hC : Closed m C) (hl : n + 1 = m) (hf : ∀ k, k < n → f k = -(C 0 (k + 1))) : anyOut n f = false ∧ leB m (pmat (vof f)) C = true :=
  has_pt hl (pt_row hC (by omega) (show 0 < m by omega)) fun k hk => by
    rw [hf k hk, if_pos (by omega), hC.diag 0 (by omega)]
    omega
/-- The ends of a variable. -/
theorem ends_of {m k : Nat} {C : Mat} (hC : Closed m C) (hk : 1 ≤ k) (hm : k < m) : spO m (some C) (k : Int) = (-(C 0 k), C k 0) := by
  have e : namedB ((m : Int) - 1) (k : Int) = true := by
    unfold namedB
    rw [decide_eq_true (by omega), decide_eq_true (by omega)]
    rfl
  have h1 := hC.near 0 k (by omega) hm
  have h2 := hC.near k 0 hm (by omega)
  have h3 := hC.low (show 0 < m by omega) hm
  have h4 := hC.low hm (show 0 < m by omega)
  have h5 := hC.tri k 0 0 hm (by omega) (by omega)
  rw [hC.diag 0 (by omega)] at h5
  have h6 := far_zero (show k ≠ 0 by omega)
  show (if namedB ((m : Int) - 1) (k : Int) = true then (ofL (-C 0 (k : Int).toNat) (C (k : Int).toNat 0), ofH (-C 0 (k : Int).toNat) (C (k : Int).toNat 0)) else (1, 0)) = _
  rw [if_pos e, Int.toNat_natCast]
  rcases of_cases (-C 0 k) (C k 0) with ⟨-, a, b⟩ | ⟨h, -⟩
  · rw [a, b, Prod.mk.injEq]
    omega
  · omega
end Go.Proofs.YtlkbapcienjdcaaDoor

/- Zone: what the changes make of a zone, said by its points. -/
namespace Go.Proofs.YtlkbapcienjdcaaDoor
open Go.RowKit

theorem setR_some {m : Nat} {A C : Mat} (h : setR m A = some C) : Alive m A ∧ C = lev A m := by
  unfold setR at h
  split at h
  · rename_i ha
    injection h with h
    exact ⟨(aliveB_iff _ _).1 ha, h.symm⟩
  · cases h
theorem vof_succ (f : Nat → Int) (k : Nat) : f k = vof f (k + 1) := by
  unfold vof
  rw [if_neg (by omega)]
  rfl
/-- Has, said by the point. -/
theorem hasO_iff {m n : Nat} {f : Nat → Int} {R : Option Mat} : hasO m n f R = true ↔ ∃ C, R = some C ∧ n + 1 = m ∧ Pt m C (vof f) := by
  cases R with
  | none => exact ⟨fun h => (by cases h), fun ⟨C, h, _⟩ => (by cases h)⟩
  | some C =>
    constructor
    · intro h
      have h' : (decide (n + 1 = m) && (!anyOut n f && leB m (pmat (vof f)) C)) = true := h
      rw [Bool.and_eq_true, Bool.and_eq_true, decide_eq_true_eq, Bool.not_eq_true'] at h'
      obtain ⟨h1, h2, h3⟩ := h'
      exact ⟨C, rfl, h1, ⟨rfl, fun i hi => vof_bd h2 (by omega), fun i j hi hj => (leB_iff _ _ _).1 h3 i j hi hj⟩⟩
    · rintro ⟨D, e, h1, hp⟩
      injection e with e
      subst e
      obtain ⟨h2, h3⟩ := has_pt h1 hp (fun k _ => vof_succ f k)
      show (decide (n + 1 = m) && (!anyOut n f && leB m (pmat (vof f)) C)) = true
      rw [h2, h3, decide_eq_true h1]
      rfl
theorem hasO_set {m n : Nat} {f : Nat → Int} {A : Mat} : hasO m n f (setR m A) = true ↔ n + 1 = m ∧ Pt m A (vof f) := by
  rw [hasO_iff]
  constructor
  · rintro ⟨C, h, h1, hp⟩
    obtain ⟨ha, rfl⟩ := setR_some h
    exact ⟨h1, pt_of_lev hp⟩
  · rintro ⟨h1, hp⟩
    obtain ⟨ha, hl⟩ := alive_pt hp
    exact ⟨_, setR_yes ha, h1, hl⟩
/-- What has the same points is settled to the same. -/
theorem setR_pts {m : Nat} {A B : Mat} (h0 : 0 < m) (h : ∀ p, Pt m A p ↔ Pt m B p) : SameO m (setR m A) (setR m B) := by
  have go : ∀ X Y : Mat, (∀ p, Pt m X p ↔ Pt m Y p) → Alive m X → Alive m Y := fun X Y hh ha =>
    (alive_pt ((hh _).1 (pt_of_lev (pt_col (lev_closed ha) h0 h0)))).1
  by_cases ha : Alive m A
  · have hb := go A B h ha
    rw [setR_yes ha, setR_yes hb]
    exact same_of_pts (lev_closed ha) (lev_closed hb) h0 fun p => ⟨fun hp => (alive_pt ((h p).1 (pt_of_lev hp))).2, fun hp => (alive_pt ((h p).2 (pt_of_lev hp))).2⟩
  · have hb : ¬ Alive m B := fun hb => ha (go B A (fun p => (h p).symm) hb)
    rw [setR_no ha, setR_no hb]
    trivial
theorem setR_right {m : Nat} {C : Mat} (hC : Closed m C) : SameO m (setR m C) (some C) := by
  obtain ⟨ha, hs⟩ := lev_same hC
  rw [setR_yes ha]
  exact hs
theorem pt_congr {m : Nat} {A B : Mat} {p : Nat → Int} (h : Same m A B) (hp : Pt m A p) : Pt m B p := ⟨hp.zero, hp.whole, fun i j hi hj => by rw [← h i j hi hj]; exact hp.holds i j hi hj⟩
theorem pt_min {m : Nat} {C D : Mat} {p : Nat → Int} : Pt m (minM C D) p ↔ Pt m C p ∧ Pt m D p := by
  constructor
  · intro h
    exact ⟨pt_le h fun i j _ _ => by unfold minM; omega, pt_le h fun i j _ _ => by unfold minM; omega⟩
  · rintro ⟨h, g⟩
    refine ⟨h.zero, h.whole, fun i j hi hj => ?_⟩
    have h1 := h.holds i j hi hj
    have h2 := g.holds i j hi hj
    unfold minM
    omega
theorem pt_grd {m : Nat} {C : Mat} {p : Nat → Int} {i j : Nat} {c : Int} (hi : i < m) (hj : j < m) : Pt m (grd C i j c) p ↔ Pt m C p ∧ p i - p j ≤ c := by
  constructor
  · intro h
    refine ⟨pt_le h fun a b _ _ => ?_, ?_⟩
    · unfold grd upd
      split
      · rename_i e
        obtain ⟨rfl, rfl⟩ := e
        omega
      · omega
    · have h1 := h.holds i j hi hj
      unfold grd upd at h1
      rw [if_pos ⟨rfl, rfl⟩] at h1
      omega
  · rintro ⟨h, g⟩
    exact grd_pt h g
/-- Variable i may be anything. -/
def fgt (C : Mat) (i : Nat) : Mat := fun a b => if a = i ∨ b = i then 4611686018427387904 else C a b
theorem pt_fgt {m : Nat} {C : Mat} {p : Nat → Int} {i : Nat} : Pt m (fgt C i) p ↔ p 0 = 0 ∧ (∀ a, a < m → -1152921504606846976 ≤ p a ∧ p a ≤ 1152921504606846976) ∧ ∀ a b, a < m → b < m → a ≠ i → b ≠ i → p a - p b ≤ C a b := by
  constructor
  · intro h
    refine ⟨h.zero, h.whole, fun a b ha hb h1 h2 => ?_⟩
    have h3 := h.holds a b ha hb
    unfold fgt at h3
    rw [if_neg (by omega)] at h3
    exact h3
  · rintro ⟨h0, h1, h2⟩
    refine ⟨h0, h1, fun a b ha hb => ?_⟩
    have h3 := h1 a ha
    have h4 := h1 b hb
    unfold fgt
    split
    · omega
    · exact h2 a b ha hb (by omega) (by omega)
/-- A point, with another number in one place. -/
def at1 (p : Nat → Int) (i : Nat) (x : Int) : Nat → Int := fun a => if a = i then x else p a
theorem fgt_put {m : Nat} {C : Mat} {p : Nat → Int} {i : Nat} {x : Int} (hp : Pt m C p) (hi : 1 ≤ i) (hx : -1152921504606846976 ≤ x ∧ x ≤ 1152921504606846976) : Pt m (fgt C i) (at1 p i x) := by
  refine pt_fgt.2 ⟨?_, fun a ha => ?_, fun a b ha hb h1 h2 => ?_⟩
  · unfold at1; rw [if_neg (by omega)]; exact hp.zero
  · unfold at1
    split
    · exact hx
    · exact hp.whole a ha
  · unfold at1
    rw [if_neg h1, if_neg h2]
    exact hp.holds a b ha hb
theorem fgt_self {m : Nat} {C : Mat} {p : Nat → Int} {i : Nat} (hp : Pt m C p) : Pt m (fgt C i) p := pt_fgt.2 ⟨hp.zero, hp.whole, fun a b ha hb _ _ => hp.holds a b ha hb⟩
theorem fgt_alive {m : Nat} {C : Mat} (hC : Closed m C) (h0 : 0 < m) (i : Nat) : Alive m (fgt C i) := (alive_pt (fgt_self (pt_col hC h0 h0))).1
/-- Variable i is moved on by c. -/
def shf (C : Mat) (i : Nat) (c : Int) : Mat := fun a b => C a b + (if a = i then c else 0) - (if b = i then c else 0)
theorem pt_shf {m : Nat} {C : Mat} {p : Nat → Int} {i : Nat} {c : Int} (hC : Closed m C) (hi : 1 ≤ i) (him : i < m) : Pt m (shf C i c) p ↔ Pt m C (at1 p i (p i - c)) ∧ -1152921504606846976 ≤ p i ∧ p i ≤ 1152921504606846976 := by
  constructor
  · intro h
    refine ⟨⟨?_, fun a ha => ?_, fun a b ha hb => ?_⟩, h.whole i him⟩
    · unfold at1; rw [if_neg (by omega)]; exact h.zero
    · unfold at1
      split
      · have h0 := h.zero
        have h1 := h.holds i 0 him (by omega)
        have h2 := h.holds 0 i (by omega) him
        have h3 := hC.near i 0 him (by omega)
        have h4 := hC.near 0 i (by omega) him
        have h5 := far_zero (show i ≠ 0 by omega)
        unfold shf at h1 h2
        rw [if_pos rfl, if_neg (by omega)] at h1 h2
        omega
      · exact h.whole a ha
    · have h1 := h.holds a b ha hb
      unfold shf at h1
      unfold at1
      split at h1 <;> split at h1 <;> rename_i e1 e2
      · rw [if_pos e1, if_pos e2]; subst e1; subst e2; omega
      · rw [if_pos e1, if_neg e2]; subst e1; omega
      · rw [if_neg e1, if_pos e2]; subst e2; omega
      · rw [if_neg e1, if_neg e2]; omega
  · rintro ⟨h, hx⟩
    refine ⟨?_, fun a ha => ?_, fun a b ha hb => ?_⟩
    · have := h.zero
      unfold at1 at this
      rw [if_neg (by omega)] at this
      exact this
    · by_cases e : a = i
      · subst e; exact hx
      · have := h.whole a ha
        unfold at1 at this
        rw [if_neg e] at this
        exact this
    · have h1 := h.holds a b ha hb
      unfold at1 at h1
      unfold shf
      split at h1 <;> split at h1 <;> rename_i e1 e2
      · rw [if_pos e1, if_pos e2]; subst e1; subst e2; omega
      · rw [if_pos e1, if_neg e2]; subst e1; omega
      · rw [if_neg e1, if_pos e2]; subst e2; omega
      · rw [if_neg e1, if_neg e2]; omega
end Go.Proofs.YtlkbapcienjdcaaDoor

/- The contract of Forget: any zone, any variable. -/
namespace Go.Proofs.YtlkbapcienjdcaaDoor
open Go.RowKit
attribute [local go_sem ↓] Go.wp_at_zero Go.wp_at_succ

/-- The box of the zone that was closed, of the variable's number, and the result's. -/
def Fg (w W : World) (a a' i b b' : Value) : Prop := Duo W w.heap.size 39 a a' ∧ Boxed W (w.heap.size + 1) 3 i ∧ Duo W (w.heap.size + 1 + 1) 39 b b' ∧ Below w.heap.size w W
theorem Fg.below {w W W1 : World} {a a' i b b' : Value} (h : Fg w W a a' i b b') (hb : Below W.heap.size W W1) : Fg w W1 a a' i b b' := ⟨h.1.below hb, boxed_below h.2.1 hb, h.2.2.1.below hb, h.2.2.2.trans (hb.mono h.2.2.2.size)⟩
theorem Fg.put {w W : World} {a a' i b b' : Value} (h : Fg w W a a' i b b') (x x' : Value) : Fg w ((W.setCell ⟨w.heap.size, 0, none⟩ x).setCell ⟨w.heap.size, 1, none⟩ x') x x' i b b' :=
  ⟨(h.1.set0 x).set1 x', boxed_other (boxed_other h.2.1 (by simp) _) (by simp) _, (h.2.2.1.other (by simp <;> omega) _).other (by simp <;> omega) _, (h.2.2.2.setCell (p := ⟨w.heap.size, 0, none⟩) (by simp) _).setCell (p := ⟨w.heap.size, 1, none⟩) (by simp) _⟩
theorem fg_new (w : World) (a a' i b b' : Value) : Fg w (((w.alloc (.cells #[a, a'] 39)).alloc (.cells #[i] 3)).alloc (.cells #[b, b'] 39)) a a' i b b' := by
  have h1 := Boxed.new (w.alloc (.cells #[a, a'] 39)) 3 i
  have h2 := Duo.new ((w.alloc (.cells #[a, a'] 39)).alloc (.cells #[i] 3)) 39 b b'
  simp only [World.size_alloc] at h1 h2
  exact ⟨((Duo.new w _ _ _).alloc _).alloc _, h1.alloc _, h2, (((Below.refl _ w).alloc (Nat.le_refl _) _).alloc (by simp) _).alloc (by simp <;> omega) _⟩

set_option maxRecDepth 100000 in
set_option maxHeartbeats 1600000 in
theorem forget_fn {m r c i0 : Nat} (hm7 : m ≤ 7) (hr : r < m) (hc : c < m) {p q g c1 base : Nat} {C : Mat} {W : World} (hi : Boxed W q 3 (.int .i64 (i0 : Int))) (h1 : Duo W p 39 (.int .i64 ((m : Int) - 1)) (.slice (some ⟨g, 0, none⟩) (m * m) c1))
    (o1 : W.ownsRow base 3 1 (.slice (some ⟨g, 0, none⟩) (m * m) c1) (m * m) ((flatL m C).map (Value.int .i64))) :
    Calls Tryd.prog 61 #[.int .i64 (r : Int), .int .i64 (c : Int), .pointer (some ⟨q, 0, none⟩), .pointer (some ⟨p, 0, none⟩)] W (ZRetInt (fgt C i0 r c) W) := by
  have x0 := hi.cell
  have x1 := hi.lt
  have x2 := h1.cell0
  have x3 := h1.cell1
  have x4 := h1.lt
  by_cases e1 : r = i0
  · have b1 : ((r : Int) == (i0 : Int)) = true := by simp; omega
    have b3 : (i0 : Int) = (r : Int) := by omega
    rw [show fgt C i0 r c = 4611686018427387904 from if_pos (Or.inl e1)]
    clear e1 b3
    go_enter Tryd.func61, Tryd.ntmps61
    go_wp2_with fail
    go_ret
    exact ⟨rfl, Below.refl _ _⟩
  · have b1 : ((r : Int) == (i0 : Int)) = false := by simp; omega
    by_cases e2 : c = i0
    · have b2 : ((c : Int) == (i0 : Int)) = true := by simp; omega
      rw [show fgt C i0 r c = 4611686018427387904 from if_pos (Or.inr e2)]
      clear e1 e2
      go_enter Tryd.func61, Tryd.ntmps61
      go_wp2_with fail
      go_ret
      exact ⟨rfl, Below.refl _ _⟩
    · have b2 : ((c : Int) == (i0 : Int)) = false := by simp; omega
      rw [show fgt C i0 r c = C r c from if_neg (by omega)]
      have HA := Lib.hid (at_own hm7 hr hc o1)
      obtain ⟨x, hx⟩ : ∃ x, C r c = x := ⟨_, rfl⟩
      rw [hx] at HA ⊢
      clear e1 e2 hx o1
      go_enter Tryd.func61, Tryd.ntmps61
      go_wp2_with (go_at_call 53; ((with_reducible refine HA.out.mono ?_); rintro e w1 ⟨rfl, hb1⟩))
      go_ret
      exact ⟨rfl, hb1⟩

def fgO (m : Nat) (R : Option Mat) (i : Int) : Option Mat :=
  match R with
  | none => none
  | some C => if namedB ((m : Int) - 1) i = true then setR m (fgt C i.toNat) else some C

set_option maxRecDepth 100000 in
set_option maxHeartbeats 1600000 in
theorem forget_none {w : World} {N : Int} {Az : Option Addr} {lz cz m : Nat} {i : Int}
    (K : ∀ W, Below w.heap.size w W → Calls Tryd.prog 32 #[zoneV N Az lz cz] W (RetC W m none)) :
    Calls Tryd.prog 42 #[zoneV N Az lz cz, .int .i64 i] w (RetC w m none) := by
  have HT := Lib.hid (fg_new w (.int .i64 N) (.slice Az lz cz) (.int .i64 i) (.int .i64 0) (.slice none 0 0))
  have HK := Lib.hid K
  have HL := Lib.hid HT.out.2.2.2
  clear K
  have e0 : rlen m (none : Option Mat) = 0 := rfl
  go_enter Tryd.func42, Tryd.ntmps42
  go_wp2_with (first
    | (go_at_call 32; ((with_reducible refine (HK.out _ HL.out).mono ?_); rintro e w1 ⟨A, c1, rfl, hz1, hb1⟩); have hF1 : Fg w w1 _ _ _ _ _ := Fg.below HT.out hb1; have y0 := hF1.1.cell0; have y1 := hF1.1.cell1; have y4 := hF1.1.frozen0; have y5 := hF1.1.frozen1)
    | (go_at_call 36; ((with_reducible refine (none_any _ _ _ _ _).mono ?_); rintro e w3 ⟨rfl, hb3⟩); have hF2 := (hF1.put (.int .i64 ((m : Int) - 1)) (.slice A 0 c1)).below hb3; have hZ2 := ((hz1.setCell (a := ⟨w.heap.size, 0, none⟩) (by simp <;> omega) (.int .i64 ((m : Int) - 1))).setCell (a := ⟨w.heap.size, 1, none⟩) (by simp <;> omega) (.slice A 0 c1)).below hb3; have p0 := hF2.1.cell0; have p1 := hF2.1.cell1; have p2 := hF2.2.2.1.cell0; have p3 := hF2.2.2.1.cell1; have p4 := hF2.2.2.1.frozen0; have p5 := hF2.2.2.1.frozen1))
  have hD := ((hF2.2.2.1.set0 (.int .i64 ((m : Int) - 1))).set1 (.slice A 0 c1))
  exact post_cell (rb := w.heap.size + 1 + 1) Tryd.results42 rfl rfl hD ⟨A, c1, rfl, ((hZ2.lower (by simp <;> omega)).setBox hF2.2.2.1 _).setBox (hF2.2.2.1.set0 _) _, (hF2.2.2.2.setCell (p := ⟨w.heap.size + 1 + 1, 0, none⟩) (by simp <;> omega) _).setCell (p := ⟨w.heap.size + 1 + 1, 1, none⟩) (by simp <;> omega) _⟩

set_option maxRecDepth 100000 in
set_option maxHeartbeats 1600000 in
theorem forget_out {w : World} {N : Int} {Az : Option Addr} {lz cz m : Nat} {i : Int} {C : Mat} (h0 : 0 < m) (k1 : namedB ((m : Int) - 1) i = false)
    (K : ∀ W, Below w.heap.size w W → Calls Tryd.prog 32 #[zoneV N Az lz cz] W (RetC W m (some C))) :
    Calls Tryd.prog 42 #[zoneV N Az lz cz, .int .i64 i] w (RetC w m (some C)) := by
  have HT := Lib.hid (fg_new w (.int .i64 N) (.slice Az lz cz) (.int .i64 i) (.int .i64 0) (.slice none 0 0))
  have HK := Lib.hid K
  have HL := Lib.hid HT.out.2.2.2
  clear K
  have e1 : rlen m (some C) = m * m := rfl
  have e2 := sq_pos h0
  go_enter Tryd.func42, Tryd.ntmps42
  go_wp2_with (first
    | (go_at_call 32; ((with_reducible refine (HK.out _ HL.out).mono ?_); rintro e w1 ⟨A, c1, rfl, hz1, hb1⟩); have hF1 : Fg w w1 _ _ _ _ _ := Fg.below HT.out hb1; have y0 := hF1.1.cell0; have y1 := hF1.1.cell1; have y4 := hF1.1.frozen0; have y5 := hF1.1.frozen1)
    | (go_at_call 36; ((with_reducible refine (none_any _ _ _ _ _).mono ?_); rintro e w3 ⟨rfl, hb3⟩); have hF2 := (hF1.put (.int .i64 ((m : Int) - 1)) (.slice A (m * m) c1)).below hb3; have hZ2 := ((hz1.setCell (a := ⟨w.heap.size, 0, none⟩) (by simp <;> omega) (.int .i64 ((m : Int) - 1))).setCell (a := ⟨w.heap.size, 1, none⟩) (by simp <;> omega) (.slice A (m * m) c1)).below hb3; have p0 := hF2.1.cell0; have p1 := hF2.1.cell1; have p2 := hF2.2.2.1.cell0; have p3 := hF2.2.2.1.cell1; have p4 := hF2.2.2.1.frozen0; have p5 := hF2.2.2.1.frozen1; have p6 := hF2.2.1.cell)
    | (go_at_call 43; ((with_reducible refine (named_any _ _ _ _ _ _).mono ?_); rintro e w4 ⟨rfl, hb4⟩); have hF3 := hF2.below hb4; have hZ3 := hZ2.below hb4; have q0 := hF3.1.cell0; have q1 := hF3.1.cell1; have q2 := hF3.2.2.1.cell0; have q3 := hF3.2.2.1.cell1; have q4 := hF3.2.2.1.frozen0; have q5 := hF3.2.2.1.frozen1))
  have hD := ((hF3.2.2.1.set0 (.int .i64 ((m : Int) - 1))).set1 (.slice A (m * m) c1))
  exact post_cell (rb := w.heap.size + 1 + 1) Tryd.results42 rfl rfl hD ⟨A, c1, rfl, ((hZ3.lower (by simp <;> omega)).setBox hF3.2.2.1 _).setBox (hF3.2.2.1.set0 _) _, (hF3.2.2.2.setCell (p := ⟨w.heap.size + 1 + 1, 0, none⟩) (by simp <;> omega) _).setCell (p := ⟨w.heap.size + 1 + 1, 1, none⟩) (by simp <;> omega) _⟩

set_option maxRecDepth 100000 in
set_option maxHeartbeats 3200000 in
theorem forget_in {w : World} {N : Int} {Az : Option Addr} {lz cz m : Nat} {i : Int} {C : Mat} (h0 : 0 < m) (h7 : m ≤ 7) (k1 : namedB ((m : Int) - 1) i = true)
    (K : ∀ W, Below w.heap.size w W → Calls Tryd.prog 32 #[zoneV N Az lz cz] W (RetC W m (some C))) :
    Calls Tryd.prog 42 #[zoneV N Az lz cz, .int .i64 i] w (RetC w m (setR m (fgt C i.toNat))) := by
  obtain ⟨i0, rfl⟩ : ∃ a : Nat, i = a := ⟨i.toNat, by simp [namedB] at k1; omega⟩
  rw [Int.toNat_natCast]
  have HT := Lib.hid (fg_new w (.int .i64 N) (.slice Az lz cz) (.int .i64 (i0 : Int)) (.int .i64 0) (.slice none 0 0))
  have HK := Lib.hid K
  have HL := Lib.hid HT.out.2.2.2
  clear K
  have e1 : rlen m (some C) = m * m := rfl
  have e2 := sq_pos h0
  go_enter Tryd.func42, Tryd.ntmps42
  go_wp2_with (first
    | (go_at_call 32; ((with_reducible refine (HK.out _ HL.out).mono ?_); rintro e w1 ⟨A, c1, rfl, hz1, hb1⟩); have hF1 : Fg w w1 _ _ _ _ _ := Fg.below HT.out hb1; have y0 := hF1.1.cell0; have y1 := hF1.1.cell1; have y4 := hF1.1.frozen0; have y5 := hF1.1.frozen1)
    | (go_at_call 36; ((with_reducible refine (none_any _ _ _ _ _).mono ?_); rintro e w3 ⟨rfl, hb3⟩); have hF2 := (hF1.put (.int .i64 ((m : Int) - 1)) (.slice A (m * m) c1)).below hb3; have hZ2 := ((hz1.setCell (a := ⟨w.heap.size, 0, none⟩) (by simp <;> omega) (.int .i64 ((m : Int) - 1))).setCell (a := ⟨w.heap.size, 1, none⟩) (by simp <;> omega) (.slice A (m * m) c1)).below hb3; have p0 := hF2.1.cell0; have p1 := hF2.1.cell1; have p2 := hF2.2.2.1.cell0; have p3 := hF2.2.2.1.cell1; have p4 := hF2.2.2.1.frozen0; have p5 := hF2.2.2.1.frozen1; have p6 := hF2.2.1.cell)
    | (go_at_call 43; ((with_reducible refine (named_any _ _ _ _ _ _).mono ?_); rintro e w4 ⟨rfl, hb4⟩); have HF3 := Lib.hid (hF2.below hb4); have hZ3 := hZ2.below hb4; have q0 := HF3.out.1.cell0; have q1 := HF3.out.1.cell1; clear p0 p1 p2 p3 p4 p5 p6 y0 y1 y4 y5))
  have k0 := q0
  clear q0
  obtain ⟨g1, rfl, hC, o1⟩ := zres_some hZ3
  have O1 := Lib.hid o1
  have HC := Lib.hid hC
  clear o1 hC hZ2 hZ3 hz1 hF1 hF2 hb1 hb3 hb4
  refine (fill_any 61 #[.pointer (some ⟨w.heap.size + 1, 0, none⟩), .pointer (some ⟨w.heap.size, 0, none⟩)] m h7 h0 (fgt C i0) _ (enters_of Tryd.func61 (by kernel_rfl) rfl) (fun r c W hr hc hbW => ?_)).mono ?_
  · have hF5 := HF3.out.below hbW
    exact forget_fn h7 hr hc hF5.2.1 hF5.1 (own_kept_below O1.out hbW)
  rintro e w5 ⟨v5, rfl, ho5, hb5⟩
  obtain ⟨g5, c5, rfl⟩ := own_slice ho5 (Nat.mul_pos h0 h0)
  have hF5 := HF3.out.below hb5
  have hg5 := (ho5.lt g5 rfl).1
  have hs4 := HF3.out.2.2.1.lt
  have ho5' := own_lower ho5 HF3.out.2.2.2.size
  have HF5 := Lib.hid hF5
  have HO5 := Lib.hid ho5'
  clear ho5 ho5' hb5 hF5
  go_wp2_with fail
  refine (settle_any m h7 h0 (fgt C i0) g5 c5 _ w5 (fun a b ha hb => by have h1 := HC.out.bd ha hb; unfold fgt; split <;> omega) HO5.out).mono ?_
  rintro e w6 (⟨ha, rfl, ho6, hg6⟩ | ⟨hna, rfl, hg6⟩)
  · have hD3 := HF5.out.2.2.1.kept hg6 (by simp <;> omega)
    have hB3 := HF5.out.2.2.2.grown hg6 HF5.out.2.2.2.size (fun r e => by cases e; omega)
    have d0 := hD3.cell0
    have d1 := hD3.cell1
    have f0 := hD3.frozen0
    have f1 := hD3.frozen1
    have HO6 := Lib.hid ho6
    have HB3 := Lib.hid hB3
    clear ho6 hB3 hg6
    go_wp2_with fail
    refine post_cell (rb := w.heap.size + 1 + 1) Tryd.results42 rfl rfl ((hD3.set0 _).set1 _) ?_
    rw [setR_yes ha]
    refine ⟨_, c5, rfl, ⟨lev_closed ha, g5, c5, rfl, ?_⟩, (HB3.out.setCell (p := ⟨w.heap.size + 1 + 1, 0, none⟩) (by simp <;> omega) _).setCell (p := ⟨w.heap.size + 1 + 1, 1, none⟩) (by simp <;> omega) _⟩
    exact (HO6.out.kept (duo_grown_setCell _ _ _) (.inr (by simp [Value.ownBlock]; omega))).kept (duo_grown_setCell _ _ _) (.inr (by simp [Value.ownBlock]; omega))
  · have hD3 := HF5.out.2.2.1.kept hg6 (by simp <;> omega)
    have hB3 := HF5.out.2.2.2.grown hg6 HF5.out.2.2.2.size (fun r e => by cases e; omega)
    have d0 := hD3.cell0
    have d1 := hD3.cell1
    have f0 := hD3.frozen0
    have f1 := hD3.frozen1
    have HB3 := Lib.hid hB3
    clear hB3 hg6
    go_wp2_with fail
    refine post_cell (rb := w.heap.size + 1 + 1) Tryd.results42 rfl rfl ((hD3.set0 _).set1 _) ?_
    rw [setR_no hna]
    exact ⟨none, 0, rfl, rfl, (HB3.out.setCell (p := ⟨w.heap.size + 1 + 1, 0, none⟩) (by simp <;> omega) _).setCell (p := ⟨w.heap.size + 1 + 1, 1, none⟩) (by simp <;> omega) _⟩

theorem forget_any {w : World} {N : Int} {Az : Option Addr} {lz cz m : Nat} {R : Option Mat} {i : Int} (h0 : 0 < m) (h7 : m ≤ 7)
    (K : ∀ W, Below w.heap.size w W → Calls Tryd.prog 32 #[zoneV N Az lz cz] W (RetC W m R)) :
    Calls Tryd.prog 42 #[zoneV N Az lz cz, .int .i64 i] w (RetC w m (fgO m R i)) := by
  cases R with
  | none => exact forget_none K
  | some C =>
    unfold fgO
    cases k1 : namedB ((m : Int) - 1) i
    · exact forget_out h0 k1 K
    · exact forget_in h0 h7 k1 K
end Go.Proofs.YtlkbapcienjdcaaDoor

/- The contract of shift: a variable is moved on. -/
namespace Go.Proofs.YtlkbapcienjdcaaDoor
open Go.RowKit
attribute [local go_sem ↓] Go.wp_at_zero Go.wp_at_succ

def Sf (w W : World) (a a' i c b b' : Value) : Prop := Duo W w.heap.size 39 a a' ∧ Boxed W (w.heap.size + 1) 3 i ∧ Boxed W (w.heap.size + 1 + 1) 3 c ∧ Duo W (w.heap.size + 1 + 1 + 1) 39 b b' ∧ Below w.heap.size w W
theorem Sf.below {w W W1 : World} {a a' i c b b' : Value} (h : Sf w W a a' i c b b') (hb : Below W.heap.size W W1) : Sf w W1 a a' i c b b' := ⟨h.1.below hb, boxed_below h.2.1 hb, boxed_below h.2.2.1 hb, h.2.2.2.1.below hb, h.2.2.2.2.trans (hb.mono h.2.2.2.2.size)⟩
theorem sf_new (w : World) (a a' i c b b' : Value) : Sf w ((((w.alloc (.cells #[a, a'] 39)).alloc (.cells #[i] 3)).alloc (.cells #[c] 3)).alloc (.cells #[b, b'] 39)) a a' i c b b' := by
  have h1 := Boxed.new (w.alloc (.cells #[a, a'] 39)) 3 i
  have h2 := Boxed.new ((w.alloc (.cells #[a, a'] 39)).alloc (.cells #[i] 3)) 3 c
  have h3 := Duo.new (((w.alloc (.cells #[a, a'] 39)).alloc (.cells #[i] 3)).alloc (.cells #[c] 3)) 39 b b'
  simp only [World.size_alloc] at h1 h2 h3
  exact ⟨(((Duo.new w _ _ _).alloc _).alloc _).alloc _, (h1.alloc _).alloc _, h2.alloc _, h3, ((((Below.refl _ w).alloc (Nat.le_refl _) _).alloc (by simp) _).alloc (by simp <;> omega) _).alloc (by simp <;> omega) _⟩

end Go.Proofs.YtlkbapcienjdcaaDoor

/- The contract of Copy: any zone, any two variables, any number. -/
namespace Go.Proofs.YtlkbapcienjdcaaDoor
open Go.RowKit
attribute [local go_sem ↓] Go.wp_at_zero Go.wp_at_succ

/-- What Copy makes where i and j are two. -/
def cpyM (m : Nat) (C : Mat) (i j : Nat) (c : Int) : Mat := grd (grd (lev (fgt C i) m) i j c) j i (-c)
def cpyO (m : Nat) (R : Option Mat) (i j c : Int) : Option Mat :=
  match R with
  | none => none
  | some C =>
    if (namedB ((m : Int) - 1) i && namedB ((m : Int) - 1) j) = true then
      (if c < -2305843009213693952 ∨ 2305843009213693952 < c then none else if i = j then setR m (shf C i.toNat c) else setR m (cpyM m C i.toNat j.toNat c))
    else some C
theorem named_nat {m : Nat} {i : Int} (k : namedB ((m : Int) - 1) i = true) : ∃ a : Nat, i = a ∧ 1 ≤ a ∧ a < m := by
  simp [namedB] at k
  exact ⟨i.toNat, by omega, by omega, by omega⟩

/-- Forget, of a right zone with a point. -/
theorem forget_back {w : World} {A : Option Addr} {c m base i : Nat} {C : Mat} (h0 : 0 < m) (h7 : m ≤ 7) (hi : 1 ≤ i) (him : i < m) (hz : ZRes w base m (some C) (zoneV ((m : Int) - 1) A (m * m) c)) :
    Calls Tryd.prog 42 #[zoneV ((m : Int) - 1) A (m * m) c, .int .i64 (i : Int)] w (RetC w m (some (lev (fgt C i) m))) := by
  have h := forget_in (i := (i : Int)) (C := C) h0 h7 (by simp [namedB]; omega) (fun W hb => close_back h0 h7 (hz.below hb))
  rw [Int.toNat_natCast, setR_yes (fgt_alive hz.1 h0 i)] at h
  exact h

end Go.Proofs.YtlkbapcienjdcaaDoor

/- The contract of Set: any zone, any variable, any span. -/
namespace Go.Proofs.YtlkbapcienjdcaaDoor
open Go.RowKit
attribute [local go_sem ↓] Go.wp_at_zero Go.wp_at_succ

/-- The boxes of the zone, of the span, of the result. -/
def St (w W : World) (a a' l h b b' : Value) : Prop := Duo W w.heap.size 39 a a' ∧ Duo W (w.heap.size + 1) 55 l h ∧ Duo W (w.heap.size + 1 + 1) 39 b b' ∧ Below w.heap.size w W
theorem St.below {w W W1 : World} {a a' l h b b' : Value} (x : St w W a a' l h b b') (hb : Below W.heap.size W W1) : St w W1 a a' l h b b' := ⟨x.1.below hb, x.2.1.below hb, x.2.2.1.below hb, x.2.2.2.trans (hb.mono x.2.2.2.size)⟩
theorem St.drew {w W : World} {a a' l h b b' : Value} (x : St w W a a' l h b b') : St w W.drew a a' l h b b' := ⟨x.1, x.2.1, x.2.2.1, x.2.2.2.drew⟩
theorem St.put {w W : World} {a a' l h b b' : Value} (x : St w W a a' l h b b') (u u' : Value) : St w ((W.setCell ⟨w.heap.size, 0, none⟩ u).setCell ⟨w.heap.size, 1, none⟩ u') u u' l h b b' :=
  ⟨(x.1.set0 u).set1 u', (x.2.1.other (by simp) _).other (by simp) _, (x.2.2.1.other (by simp <;> omega) _).other (by simp <;> omega) _, (x.2.2.2.setCell (p := ⟨w.heap.size, 0, none⟩) (by simp) _).setCell (p := ⟨w.heap.size, 1, none⟩) (by simp) _⟩
theorem St.puts {w W : World} {a a' l h b b' : Value} (x : St w W a a' l h b b') (u u' : Value) : St w ((W.setCell ⟨w.heap.size + 1, 0, none⟩ u).setCell ⟨w.heap.size + 1, 1, none⟩ u') a a' u u' b b' :=
  ⟨(x.1.other (by simp) _).other (by simp) _, (x.2.1.set0 u).set1 u', (x.2.2.1.other (by simp <;> omega) _).other (by simp <;> omega) _, (x.2.2.2.setCell (p := ⟨w.heap.size + 1, 0, none⟩) (by simp) _).setCell (p := ⟨w.heap.size + 1, 1, none⟩) (by simp) _⟩
theorem St.kept {w W W1 : World} {a a' l h b b' : Value} {g : Nat} (x : St w W a a' l h b b') (hg : W.grownBy W1 (some g)) (h1 : w.heap.size + 1 + 1 < g) : St w W1 a a' l h b b' :=
  ⟨x.1.kept hg (by simp; omega), x.2.1.kept hg (by simp; omega), x.2.2.1.kept hg (by simp; omega), x.2.2.2.grown hg x.2.2.2.size (fun r e => by cases e; omega)⟩
theorem st_new (w : World) (a a' l h b b' : Value) : St w (((w.alloc (.cells #[a, a'] 39)).alloc (.cells #[l, h] 55)).alloc (.cells #[b, b'] 39)) a a' l h b b' := by
  have h1 := Duo.new (w.alloc (.cells #[a, a'] 39)) 55 l h
  have h2 := Duo.new ((w.alloc (.cells #[a, a'] 39)).alloc (.cells #[l, h] 55)) 39 b b'
  simp only [World.size_alloc] at h1 h2
  exact ⟨((Duo.new w _ _ _).alloc _).alloc _, h1.alloc _, h2, (((Below.refl _ w).alloc (Nat.le_refl _) _).alloc (by simp) _).alloc (by simp <;> omega) _⟩
/-- What Set makes of what Forget made. -/
def setM (F : Mat) (i : Nat) (L H : Int) : Mat := grd (grd F i 0 H) 0 i (-L)
def setO (m : Nat) (R : Option Mat) (i l h : Int) : Option Mat :=
  match R with
  | none => none
  | some C => if namedB ((m : Int) - 1) i = true then setR m (setM (lev (fgt C i.toNat) m) i.toNat (meetL l h (-1152921504606846976) 1152921504606846976) (meetH l h (-1152921504606846976) 1152921504606846976)) else some C
theorem meet_bd (a b c d : Int) : -1152921504606846976 ≤ meetL a b c d ∧ meetL a b c d ≤ 1152921504606846976 ∧ -1152921504606846976 ≤ meetH a b c d ∧ meetH a b c d ≤ 1152921504606846976 := by
  have h1 := tk_bd a b
  have h2 := tk_bd c d
  rcases meet_cases a b c d with ⟨h, e1, e2⟩ | ⟨h, e1, e2⟩ <;> rw [e1, e2] <;> omega
/-- Behind the span's Meet. -/
def Sm (w : World) (base m : Nat) (F : Mat) (L H : Int) (g c : Nat) (wx : World) : Prop :=
  St w wx (.int .i64 ((m : Int) - 1)) (.slice (some ⟨g, 0, none⟩) (m * m) c) (.int .i64 L) (.int .i64 H) (.int .i64 0) (.slice none 0 0) ∧ wx.ownsRow base 3 1 (.slice (some ⟨g, 0, none⟩) (m * m) c) (m * m) ((flatL m F).map (Value.int .i64))
theorem own_other {W : World} {base g k c : Nat} {xs : List Value} (o : W.ownsRow base 3 1 (.slice (some ⟨g, 0, none⟩) k c) k xs) {a : Addr} (hne : g ≠ a.block) (u : Value) : (W.setCell a u).ownsRow base 3 1 (.slice (some ⟨g, 0, none⟩) k c) k xs :=
  o.kept (duo_grown_setCell W a u) (.inr (by simp [Value.ownBlock]; omega))

set_option maxRecDepth 100000 in
set_option maxHeartbeats 3200000 in
theorem set_none {w : World} {N : Int} {Az : Option Addr} {lz cz m : Nat} {i l h : Int} 
    (K : ∀ W, Below w.heap.size w W → Calls Tryd.prog 42 #[zoneV N Az lz cz, .int .i64 i] W (RetC W m none)) :
    Calls Tryd.prog 22 #[zoneV N Az lz cz, .int .i64 i, .agg #[.int .i64 l, .int .i64 h]] w (RetC w m none) := by
  have HT := Lib.hid (st_new w (.int .i64 N) (.slice Az lz cz) (.int .i64 l) (.int .i64 h) (.int .i64 0) (.slice none 0 0))
  have HL := Lib.hid HT.out.2.2.2
  have HK := Lib.hid K
  clear K
  have e0 : rlen m (none : Option Mat) = 0 := rfl
  go_enter Tryd.func22, Tryd.ntmps22
  go_wp2_with (first
    | (go_at_call 42; ((with_reducible refine (HK.out _ HL.out).mono ?_); rintro e w1 ⟨A, c1, rfl, hz1, hb1⟩); have hF1 : St w w1 _ _ _ _ _ _ := St.below HT.out hb1; have y0 := hF1.1.cell0; have y1 := hF1.1.cell1; have y4 := hF1.1.frozen0; have y5 := hF1.1.frozen1)
    | (go_at_call 36; ((with_reducible refine (none_any _ _ _ _ _).mono ?_); rintro e w3 ⟨rfl, hb3⟩); have hF2 := (hF1.put (.int .i64 ((m : Int) - 1)) (.slice A 0 c1)).below hb3; have hZ2 := ((hz1.setCell (a := ⟨w.heap.size, 0, none⟩) (by simp <;> omega) (.int .i64 ((m : Int) - 1))).setCell (a := ⟨w.heap.size, 1, none⟩) (by simp <;> omega) (.slice A 0 c1)).below hb3; have p0 := hF2.1.cell0; have p1 := hF2.1.cell1; have p2 := hF2.2.2.1.cell0; have p3 := hF2.2.2.1.cell1; have p4 := hF2.2.2.1.frozen0; have p5 := hF2.2.2.1.frozen1))
  have hD := ((hF2.2.2.1.set0 (.int .i64 ((m : Int) - 1))).set1 (.slice A 0 c1))
  exact post_cell (rb := w.heap.size + 1 + 1) Tryd.results22 rfl rfl hD ⟨A, c1, rfl, ((hZ2.lower (by simp <;> omega)).setBox hF2.2.2.1 _).setBox (hF2.2.2.1.set0 _) _, (hF2.2.2.2.setCell (p := ⟨w.heap.size + 1 + 1, 0, none⟩) (by simp <;> omega) _).setCell (p := ⟨w.heap.size + 1 + 1, 1, none⟩) (by simp <;> omega) _⟩

set_option maxRecDepth 100000 in
set_option maxHeartbeats 3200000 in
theorem set_out {w : World} {N : Int} {Az : Option Addr} {lz cz m : Nat} {i l h : Int} {C : Mat} (h0 : 0 < m) (k1 : namedB ((m : Int) - 1) i = false)
    (K : ∀ W, Below w.heap.size w W → Calls Tryd.prog 42 #[zoneV N Az lz cz, .int .i64 i] W (RetC W m (some C))) :
    Calls Tryd.prog 22 #[zoneV N Az lz cz, .int .i64 i, .agg #[.int .i64 l, .int .i64 h]] w (RetC w m (some C)) := by
  have HT := Lib.hid (st_new w (.int .i64 N) (.slice Az lz cz) (.int .i64 l) (.int .i64 h) (.int .i64 0) (.slice none 0 0))
  have HL := Lib.hid HT.out.2.2.2
  have HK := Lib.hid K
  clear K
  have e1 : rlen m (some C) = m * m := rfl
  have e2 := sq_pos h0
  go_enter Tryd.func22, Tryd.ntmps22
  go_wp2_with (first
    | (go_at_call 42; ((with_reducible refine (HK.out _ HL.out).mono ?_); rintro e w1 ⟨A, c1, rfl, hz1, hb1⟩); have hF1 : St w w1 _ _ _ _ _ _ := St.below HT.out hb1; have y0 := hF1.1.cell0; have y1 := hF1.1.cell1; have y4 := hF1.1.frozen0; have y5 := hF1.1.frozen1)
    | (go_at_call 36; ((with_reducible refine (none_any _ _ _ _ _).mono ?_); rintro e w3 ⟨rfl, hb3⟩); have hF2 := (hF1.put (.int .i64 ((m : Int) - 1)) (.slice A (m * m) c1)).below hb3; have hZ2 := ((hz1.setCell (a := ⟨w.heap.size, 0, none⟩) (by simp <;> omega) (.int .i64 ((m : Int) - 1))).setCell (a := ⟨w.heap.size, 1, none⟩) (by simp <;> omega) (.slice A (m * m) c1)).below hb3; have p0 := hF2.1.cell0; have p1 := hF2.1.cell1; have p2 := hF2.2.2.1.cell0; have p3 := hF2.2.2.1.cell1; have p4 := hF2.2.2.1.frozen0; have p5 := hF2.2.2.1.frozen1)
    | (go_at_call 43; ((with_reducible refine (named_any _ _ _ _ _ _).mono ?_); rintro e w4 ⟨rfl, hb4⟩); have hF3 := hF2.below hb4; have hZ3 := hZ2.below hb4; have q0 := hF3.1.cell0; have q1 := hF3.1.cell1; have q2 := hF3.2.2.1.cell0; have q3 := hF3.2.2.1.cell1; have q4 := hF3.2.2.1.frozen0; have q5 := hF3.2.2.1.frozen1))
  have hD := ((hF3.2.2.1.set0 (.int .i64 ((m : Int) - 1))).set1 (.slice A (m * m) c1))
  exact post_cell (rb := w.heap.size + 1 + 1) Tryd.results22 rfl rfl hD ⟨A, c1, rfl, ((hZ3.lower (by simp <;> omega)).setBox hF3.2.2.1 _).setBox (hF3.2.2.1.set0 _) _, (hF3.2.2.2.setCell (p := ⟨w.heap.size + 1 + 1, 0, none⟩) (by simp <;> omega) _).setCell (p := ⟨w.heap.size + 1 + 1, 1, none⟩) (by simp <;> omega) _⟩

set_option maxRecDepth 100000 in
set_option maxHeartbeats 3200000 in
theorem set_in {w : World} {N : Int} {Az : Option Addr} {lz cz m : Nat} {i l h : Int} {F : Mat} (h0 : 0 < m) (h7 : m ≤ 7) (k1 : namedB ((m : Int) - 1) i = true)
    (K : ∀ W, Below w.heap.size w W → Calls Tryd.prog 42 #[zoneV N Az lz cz, .int .i64 i] W (RetC W m (some F))) :
    Calls Tryd.prog 22 #[zoneV N Az lz cz, .int .i64 i, .agg #[.int .i64 l, .int .i64 h]] w (RetC w m (setR m (setM F i.toNat (meetL l h (-1152921504606846976) 1152921504606846976) (meetH l h (-1152921504606846976) 1152921504606846976)))) := by
  obtain ⟨i0, rfl, hi1, him⟩ := named_nat k1
  rw [Int.toNat_natCast]
  have HT := Lib.hid (st_new w (.int .i64 N) (.slice Az lz cz) (.int .i64 l) (.int .i64 h) (.int .i64 0) (.slice none 0 0))
  have HL := Lib.hid HT.out.2.2.2
  have HK := Lib.hid K
  clear K
  have e1 : rlen m (some F) = m * m := rfl
  have e2 := sq_pos h0
  have HI := Lib.hid (And.intro hi1 him)
  have HMe := Lib.hid (fun W => Sp.meet_any l h (-1152921504606846976) 1152921504606846976 W)
  have HMb := Lib.hid (meet_bd l h (-1152921504606846976) 1152921504606846976)
  obtain ⟨L, hLe⟩ : ∃ L, meetL l h (-1152921504606846976) 1152921504606846976 = L := ⟨_, rfl⟩
  obtain ⟨H, hHe⟩ : ∃ H, meetH l h (-1152921504606846976) 1152921504606846976 = H := ⟨_, rfl⟩
  rw [hLe, hHe] at HMe HMb ⊢
  clear hLe hHe hi1 him
  go_enter Tryd.func22, Tryd.ntmps22
  go_upto_region 4 with (first
    | (go_at_call 42; ((with_reducible refine (HK.out _ HL.out).mono ?_); rintro e w1 ⟨A, c1, rfl, hz1, hb1⟩); have hF1 : St w w1 _ _ _ _ _ _ := St.below HT.out hb1; have y0 := hF1.1.cell0; have y1 := hF1.1.cell1; have y4 := hF1.1.frozen0; have y5 := hF1.1.frozen1)
    | (go_at_call 36; ((with_reducible refine (none_any _ _ _ _ _).mono ?_); rintro e w3 ⟨rfl, hb3⟩); have hF2 := (hF1.put (.int .i64 ((m : Int) - 1)) (.slice A (m * m) c1)).below hb3; have hZ2 := ((hz1.setCell (a := ⟨w.heap.size, 0, none⟩) (by simp <;> omega) (.int .i64 ((m : Int) - 1))).setCell (a := ⟨w.heap.size, 1, none⟩) (by simp <;> omega) (.slice A (m * m) c1)).below hb3; have p0 := hF2.1.cell0; have p1 := hF2.1.cell1; have p2 := hF2.2.2.1.cell0; have p3 := hF2.2.2.1.cell1; have p4 := hF2.2.2.1.frozen0; have p5 := hF2.2.2.1.frozen1)
    | (go_at_call 43; ((with_reducible refine (named_any _ _ _ _ _ _).mono ?_); rintro e w4 ⟨rfl, hb4⟩); have hF3 := hF2.below hb4; have hZ3 := hZ2.below hb4; have q0 := hF3.1.cell0; have q1 := hF3.1.cell1; have q2 := hF3.2.2.1.cell0; have q3 := hF3.2.2.1.cell1; have q4 := hF3.2.2.1.frozen0; have q5 := hF3.2.2.1.frozen1))
  obtain ⟨g, rfl, hC, o3⟩ := zres_some hZ3
  have HC := Lib.hid hC
  have hgl := (o3.lt g rfl).1
  have hgs := hF1.2.2.1.lt
  have HF3 := Lib.hid hF3.drew
  have HO3 := Lib.hid (show World.ownsRow w4.drew _ 3 1 _ _ _ from o3)
  have HG := Lib.hid (show w.heap.size + 1 + 1 < g by simp at hgl; omega)
  have u0 := HF3.out.2.1.cell0
  have u1 := HF3.out.2.1.cell1
  have HLs := Lib.hid HF3.out.2.2.2
  clear p0 p1 p2 p3 p4 p5 q0 q1 q2 q3 q4 q5 y0 y1 y4 y5 hZ2 hZ3 hF1 hF2 hF3 hb1 hb3 hb4 hz1 o3 hC hgl hgs
  go_cut [] (fun wx => Sm w w.heap.size m F L H g c1 wx)
  case first =>
    go_region_with (first
      | (go_at_call 45; ((with_reducible refine (Sp.full_any _).mono ?_); rintro e w6 ⟨rfl, hb6⟩); have H6 := Lib.hid (HF3.out.below hb6); have O6 := Lib.hid (own_kept_below HO3.out hb6); have t0 := H6.out.2.1.cell0; have t1 := H6.out.2.1.cell1; clear hb6)
      | (go_at_call 44; ((with_reducible refine (HMe.out _).mono ?_); rintro e w7 ⟨rfl, hb7⟩); have H7' := Lib.hid (H6.out.below hb7); have O7 := Lib.hid (own_kept_below O6.out hb7); have s0 := H7'.out.2.1.cell0; have s1 := H7'.out.2.1.cell1; have s2 := H7'.out.2.1.frozen0; have s3 := H7'.out.2.1.frozen1; clear hb7))
    all_goals go_wp2_with fail
    all_goals go_meet
    all_goals exact ⟨H7'.out.puts _ _, own_lower (own_other (own_other O7.out (by have := HG.out; simp; omega) _) (by have := HG.out; simp; omega) _) HT.out.2.2.2.size⟩
  case rest =>
    clear u0 u1 HF3 HO3
    obtain ⟨hS, o⟩ := hcut
    have HS := Lib.hid hS
    have HO := Lib.hid o
    have k0 := hS.1.cell0
    have k1' := hS.1.cell1
    have k2 := hS.2.1.cell0
    have k3 := hS.2.1.cell1
    have hI := HI.out
    have hw : IntKind.i64.wrap (-L) = -L := IntWalk.i64_in _ (by have := HMb.out; omega)
    clear hS o
    go_wp2_with fail
    refine (lower_any m i0 0 h7 hI.2 h0 g c1 _ (flatL m F) (F i0 0) H _ HO.out (flat_at F hI.2 h0)).mono ?_
    rintro e w7 ⟨⟨v7, rfl⟩, ho7, hg7⟩
    rw [flat_set F h0] at ho7
    have HS7 := Lib.hid (HS.out.kept hg7 HG.out)
    have HO7 := Lib.hid (show w7.ownsRow _ 3 1 _ _ ((flatL m (grd F i0 0 H)).map (Value.int .i64)) from ho7)
    clear ho7 hg7 k0 k1' k2 k3
    have k0 := HS7.out.1.cell0
    have k1' := HS7.out.1.cell1
    have k2 := HS7.out.2.1.cell0
    have k3 := HS7.out.2.1.cell1
    go_wp2_with fail
    refine (lower_any m 0 i0 h7 h0 hI.2 g c1 _ (flatL m (grd F i0 0 H)) (grd F i0 0 H 0 i0) (-L) _ HO7.out (flat_at (grd F i0 0 H) h0 hI.2)).mono ?_
    rintro e w8 ⟨⟨v8, rfl⟩, ho8, hg8⟩
    rw [flat_set (grd F i0 0 H) hI.2] at ho8
    have HS8 := Lib.hid (HS7.out.kept hg8 HG.out)
    have HO8 := Lib.hid (show w8.ownsRow _ 3 1 _ _ ((flatL m (setM F i0 L H)).map (Value.int .i64)) from ho8)
    clear ho8 hg8 k0 k1' k2 k3
    have k0 := HS8.out.1.cell0
    have k1' := HS8.out.1.cell1
    go_wp2_with fail
    refine (settle_any m h7 h0 (setM F i0 L H) g c1 _ w8 (fun a b ha hb => by
      have h1 := HC.out.bd ha hb
      have h3 := HMb.out
      have h4 : grd F i0 0 H a b = F a b ∨ grd F i0 0 H a b = min (F i0 0) H := by unfold grd upd; split <;> omega
      have h5 : grd F i0 0 H 0 i0 = F 0 i0 ∨ grd F i0 0 H 0 i0 = min (F i0 0) H := by unfold grd upd; split <;> omega
      have h6 : setM F i0 L H a b = grd F i0 0 H a b ∨ setM F i0 L H a b = min (grd F i0 0 H 0 i0) (-L) := by
        show upd (grd F i0 0 H) 0 i0 _ a b = _ ∨ upd (grd F i0 0 H) 0 i0 _ a b = _
        unfold upd
        split
        · exact .inr rfl
        · exact .inl rfl
      have h7 := HC.out.bd hI.2 h0
      have h8 := HC.out.bd h0 hI.2
      omega) HO8.out).mono ?_
    rintro e w9 (⟨ha, rfl, ho9, hg9⟩ | ⟨hna, rfl, hg9⟩)
    · have hS9 := HS8.out.kept hg9 HG.out
      have hD3 := hS9.2.2.1
      have d0 := hD3.cell0
      have d1 := hD3.cell1
      have f0 := hD3.frozen0
      have f1 := hD3.frozen1
      have HO9 := Lib.hid ho9
      have HB3 := Lib.hid hS9.2.2.2
      clear ho9 hS9 hg9
      go_wp2_with fail
      refine post_cell (rb := w.heap.size + 1 + 1) Tryd.results22 rfl rfl ((hD3.set0 _).set1 _) ?_
      rw [setR_yes ha]
      refine ⟨_, c1, rfl, ⟨lev_closed ha, g, c1, rfl, ?_⟩, (HB3.out.setCell (p := ⟨w.heap.size + 1 + 1, 0, none⟩) (by simp <;> omega) _).setCell (p := ⟨w.heap.size + 1 + 1, 1, none⟩) (by simp <;> omega) _⟩
      exact own_other (own_other HO9.out (by have := HG.out; simp; omega) _) (by have := HG.out; simp; omega) _
    · have hS9 := HS8.out.kept hg9 HG.out
      have hD3 := hS9.2.2.1
      have d0 := hD3.cell0
      have d1 := hD3.cell1
      have f0 := hD3.frozen0
      have f1 := hD3.frozen1
      have HB3 := Lib.hid hS9.2.2.2
      clear hS9 hg9
      go_wp2_with fail
      refine post_cell (rb := w.heap.size + 1 + 1) Tryd.results22 rfl rfl ((hD3.set0 _).set1 _) ?_
      rw [setR_no hna]
      exact ⟨none, 0, rfl, rfl, (HB3.out.setCell (p := ⟨w.heap.size + 1 + 1, 0, none⟩) (by simp <;> omega) _).setCell (p := ⟨w.heap.size + 1 + 1, 1, none⟩) (by simp <;> omega) _⟩

theorem set_any {w : World} {N : Int} {Az : Option Addr} {lz cz m : Nat} {R : Option Mat} {i l h : Int} (h0 : 0 < m) (h7 : m ≤ 7)
    (K : ∀ W, Below w.heap.size w W → Calls Tryd.prog 32 #[zoneV N Az lz cz] W (RetC W m R)) (hR : ∀ C, R = some C → Closed m C) :
    Calls Tryd.prog 22 #[zoneV N Az lz cz, .int .i64 i, .agg #[.int .i64 l, .int .i64 h]] w (RetC w m (setO m R i l h)) := by
  have KF : ∀ W, Below w.heap.size w W → Calls Tryd.prog 42 #[zoneV N Az lz cz, .int .i64 i] W (RetC W m (fgO m R i)) := fun W hb => forget_any h0 h7 fun W1 hb1 => K W1 (hb.trans (hb1.mono hb.size))
  cases R with
  | none => exact set_none KF
  | some C =>
    unfold setO
    unfold fgO at KF
    cases k1 : namedB ((m : Int) - 1) i
    · rw [k1] at KF
      exact set_out h0 k1 KF
    · have e : (if namedB ((m : Int) - 1) i = true then setR m (fgt C i.toNat) else some C) = some (lev (fgt C i.toNat) m) := by rw [if_pos k1, setR_yes (fgt_alive (hR C rfl) h0 _)]
      have KG : ∀ W, Below w.heap.size w W → Calls Tryd.prog 42 #[zoneV N Az lz cz, .int .i64 i] W (RetC W m (some (lev (fgt C i.toNat) m))) := fun W hb => by
        have := KF W hb
        rw [← e]
        exact this
      exact set_in h0 h7 k1 KG
end Go.Proofs.YtlkbapcienjdcaaDoor
