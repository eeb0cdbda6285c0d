/- Put together of: Index, Has, HasMore, HasNil, Back. -/
import Derived.Test.YtlkbapcienjdcaaDoorGSmall
import Derived.Deep.LoopGhost
import Derived.IntWalk
/- The contracts of slices.IndexFunc and ContainsFunc, with the function that Has hands them. -/
namespace Go.Proofs.YtlkbapcienjdcaaDoor
open Go.RowKit
attribute [local go_sem ↓] Go.wp_at_zero Go.wp_at_succ

def outB (n : Int) : Bool := !(decide (-1152921504606846976 ≤ n) && decide (n ≤ 1152921504606846976))
def anyOut (n : Nat) (f : Nat → Int) : Bool := (List.range n).any fun k => outB (f k)
theorem anyOut_no {n : Nat} {f : Nat → Int} (h : ∀ k, k < n → outB (f k) = false) : anyOut n f = false := by
  unfold anyOut
  rw [List.any_eq_false]
  intro k hk
  rw [h k (List.mem_range.1 hk)]
  exact Bool.false_ne_true
theorem anyOut_yes {n k : Nat} {f : Nat → Int} (hk : k < n) (h : outB (f k) = true) : anyOut n f = true := by
  unfold anyOut
  rw [List.any_eq_true]
  exact ⟨k, List.mem_range.2 hk, h⟩
def RetAt (w : World) (any : Bool) (e : Ending) (w' : World) : Prop := (∃ r : Int, e = .returned (.int .i64 r) ∧ decide (0 ≤ r) = any) ∧ Below w.heap.size w w'
end Go.Proofs.YtlkbapcienjdcaaDoor

/- The contract of Has: any zone, any numbers. -/
namespace Go.Proofs.YtlkbapcienjdcaaDoor
open Go.RowKit Go.Shelf
attribute [local go_sem] Oper.semAt_some
attribute [local go_sem ↓] Go.wp_at_zero Go.wp_at_succ

/-- What variable i is at a point. -/
def vof (f : Nat → Int) (i : Nat) : Int := if i = 0 then 0 else f (i - 1)
/-- The zone's box, the row's, and the result's. -/
def Hs (w W : World) (a a' p r : Value) : Prop := Duo W w.heap.size 39 a a' ∧ Boxed W (w.heap.size + 1) 29 p ∧ Boxed W (w.heap.size + 1 + 1) 4 r ∧ Below w.heap.size w W
theorem Hs.below {w W W1 : World} {a a' p r : Value} (h : Hs w W a a' p r) (hb : Below W.heap.size W W1) : Hs w W1 a a' p r := ⟨h.1.below hb, boxed_below h.2.1 hb, boxed_below h.2.2.1 hb, h.2.2.2.trans (hb.mono h.2.2.2.size)⟩
theorem Hs.drew {w W : World} {a a' p r : Value} (h : Hs w W a a' p r) : Hs w W.drew a a' p r := ⟨h.1, h.2.1, h.2.2.1, h.2.2.2.drew⟩
theorem Hs.set {w W : World} {a a' p r : Value} (h : Hs w W a a' p r) (x x' : Value) : Hs w ((W.setCell ⟨w.heap.size, 0, none⟩ x).setCell ⟨w.heap.size, 1, none⟩ x') x x' p r :=
  ⟨(h.1.set0 x).set1 x', boxed_other (boxed_other h.2.1 (by simp) _) (by simp) _, boxed_other (boxed_other h.2.2.1 (by simp <;> omega) _) (by simp <;> omega) _, (h.2.2.2.setCell (p := ⟨w.heap.size, 0, none⟩) (by simp) _).setCell (p := ⟨w.heap.size, 1, none⟩) (by simp) _⟩
theorem hs_new (w : World) (a a' p r : Value) : Hs w (((w.alloc (.cells #[a, a'] 39)).alloc (.cells #[p] 29)).alloc (.cells #[r] 4)) a a' p r := by
  have h1 := Boxed.new (w.alloc (.cells #[a, a'] 39)) 29 p
  have h2 := Boxed.new ((w.alloc (.cells #[a, a'] 39)).alloc (.cells #[p] 29)) 4 r
  simp only [World.size_alloc] at h1 h2
  exact ⟨((Duo.new w _ _ _).alloc _).alloc _, h1.alloc _, h2, (((Below.refl _ w).alloc (Nat.le_refl _) _).alloc (by simp) _).alloc (by simp; omega) _⟩

theorem vof_bd {n i : Nat} {f : Nat → Int} (h : anyOut n f = false) (hi : i ≤ n) : -1152921504606846976 ≤ vof f i ∧ vof f i ≤ 1152921504606846976 := by
  unfold vof
  by_cases e : i = 0
  · rw [if_pos e]; omega
  · rw [if_neg e]
    unfold anyOut at h
    rw [List.any_eq_false] at h
    have := h (i - 1) (List.mem_range.2 (by omega))
    unfold outB at this
    simp at this
    omega
/-- With the row of the bounds. -/
def Hz (w : World) (base m g c : Nat) (C : Mat) (p r : Value) (W : World) : Prop := Hs w W (.int .i64 ((m : Int) - 1)) (.slice (some ⟨g, 0, none⟩) (m * m) c) p r ∧ W.ownsRow base 3 1 (.slice (some ⟨g, 0, none⟩) (m * m) c) (m * m) ((flatL m C).map (Value.int .i64))
theorem Hz.below {w W W1 : World} {base m g c : Nat} {C : Mat} {p r : Value} (h : Hz w base m g c C p r W) (hb : Below W.heap.size W W1) : Hz w base m g c C p r W1 := ⟨h.1.below hb, own_kept_below h.2 hb⟩
theorem Hz.drew {w W : World} {base m g c : Nat} {C : Mat} {p r : Value} (h : Hz w base m g c C p r W) : Hz w base m g c C p r W.drew := ⟨h.1.drew, h.2⟩
theorem Hz.cells {w W : World} {base m g c : Nat} {C : Mat} {p r : Value} (h : Hz w base m g c C p r W) : W.cell? ⟨w.heap.size + 1, 0, none⟩ = some p ∧ W.cell? ⟨w.heap.size, 0, none⟩ = some (.int .i64 ((m : Int) - 1)) ∧ W.cell? ⟨w.heap.size, 1, none⟩ = some (.slice (some ⟨g, 0, none⟩) (m * m) c) := ⟨h.1.2.1.cell, h.1.1.cell0, h.1.1.cell1⟩
theorem hs_own {α : Type} {w : World} {a a' p r : Value} (B : Nat) (hB : w.heap.size ≤ B) : OwnFrom B (fun (_ : α) W => Hs w W a a' p r) := by
  intro s X Y row h hg hr
  have hr' : ∀ r, row = some r → ∃ o : Obj, X.heap[r]? = some o ∧ o.isCells = false := fun r e => (hr r e).2
  exact ⟨cells_own h.1 hg hr', cells_own h.2.1 hg hr', cells_own h.2.2.1 hg hr', h.2.2.2.grown hg h.2.2.2.size (fun r e => Nat.le_trans hB (hr r e).1)⟩
theorem hz_own {α : Type} {w : World} {base m g c : Nat} {C : Mat} {p r : Value} (B : Nat) (hB : w.heap.size ≤ B) : OwnFrom B (fun (_ : α) W => Hz w base m g c C p r W) := by
  intro s X Y row h hg hr
  exact ⟨hs_own (α := α) B hB s X Y row h.1 hg hr, row_own h.2 hg (fun r e => (hr r e).2)⟩
/-- It was found that a bound is broken. -/
def Broken (ok : Bool) (w : World) (a a' p : Value) (c : Code) (W : World) : Prop := c = .ret ∧ ok = false ∧ Hs w W a a' p (.bool false)
theorem broken_own {α : Type} (ok : Bool) (w : World) (a a' p : Value) (B : Nat) (hB : w.heap.size ≤ B) (c : Code) : OwnFrom B (fun (_ : α) W => Broken ok w a a' p c W) := by
  intro s X Y row h hg hr
  exact ⟨h.1, h.2.1, hs_own (α := α) B hB s X Y row h.2.2 hg hr⟩
end Go.Proofs.YtlkbapcienjdcaaDoor

/- The contract of Has: the bottom, another length, a number that is out; and all of them together. -/
namespace Go.Proofs.YtlkbapcienjdcaaDoor
open Go.RowKit Go.Shelf
attribute [local go_sem] Oper.semAt_some
attribute [local go_sem ↓] Go.wp_at_zero Go.wp_at_succ

/-- Has, whatever the numbers are. -/
def hasO (m n : Nat) (f : Nat → Int) : Option Mat → Bool
  | none => false
  | some C => decide (n + 1 = m) && (!anyOut n f && leB m (pmat (vof f)) C)
end Go.Proofs.YtlkbapcienjdcaaDoor

/- The contract of Has at a row of no number. -/
namespace Go.Proofs.YtlkbapcienjdcaaDoor
open Go.RowKit Go.Shelf
attribute [local go_sem] Oper.semAt_some
attribute [local go_sem ↓] Go.wp_at_zero Go.wp_at_succ

end Go.Proofs.YtlkbapcienjdcaaDoor

/- A right zone is its own Close; and right zones with the same bounds are told alike. -/
namespace Go.Proofs.YtlkbapcienjdcaaDoor
open Go.RowKit

def SameO (m : Nat) : Option Mat → Option Mat → Prop
  | none, none => True
  | some C, some D => Same m C D
  | _, _ => False
theorem rlen_same {m : Nat} {R S : Option Mat} (h : SameO m R S) : rlen m R = rlen m S := by
  cases R <;> cases S <;> first | rfl | exact absurd h (by simp [SameO])
theorem zres_congr {W : World} {base m : Nat} {R S : Option Mat} {v : Value} (hz : ZRes W base m R v) (h : SameO m R S) : ZRes W base m S v := by
  cases R with
  | none => cases S with
    | none => exact hz
    | some D => exact absurd h (by simp [SameO])
  | some C => cases S with
    | none => exact absurd h (by simp [SameO])
    | some D =>
      obtain ⟨hC, g, cap, e, o⟩ := hz
      have h' : Same m C D := h
      rw [flat_congr h'] at o
      exact ⟨hC.congr h', g, cap, e, o⟩
theorem retC_congr {w : World} {m : Nat} {R S : Option Mat} {e : Ending} {w' : World} (hr : RetC w m R e w') (h : SameO m R S) : RetC w m S e w' := by
  obtain ⟨A, cap, he, hz, hb⟩ := hr
  rw [rlen_same h] at he hz
  exact ⟨A, cap, he, zres_congr hz h, hb⟩
/-- Close leaves a right one as it is. -/
theorem close_back {w : World} {A : Option Addr} {c m base : Nat} {R : Option Mat} (h0 : 0 < m) (h7 : m ≤ 7) (hz : ZRes w base m R (zoneV ((m : Int) - 1) A (rlen m R) c)) :
    Calls Tryd.prog 32 #[zoneV ((m : Int) - 1) A (rlen m R) c] w (RetC w m R) := by
  have h := close_z (hz.arg h7)
  rw [(zm_of h0 h7).2] at h
  refine h.mono fun e w' hr => retC_congr hr ?_
  cases R with
  | none => rw [zr_bottom m h0 h7]; trivial
  | some C =>
    obtain ⟨D, e1, e2⟩ := zr_right h0 h7 hz.1
    rw [e1]
    exact e2
theorem two_back {w : World} {A B : Option Addr} {c d ma mb base : Nat} {Ra Rb : Option Mat} (h0 : 0 < ma) (h7 : ma ≤ 7) (g0 : 0 < mb) (g7 : mb ≤ 7) (ha : ZRes w base ma Ra (zoneV ((ma : Int) - 1) A (rlen ma Ra) c)) (hb : ZRes w base mb Rb (zoneV ((mb : Int) - 1) B (rlen mb Rb) d)) :
    Calls Tryd.prog 35 #[zoneV ((ma : Int) - 1) A (rlen ma Ra) c, zoneV ((mb : Int) - 1) B (rlen mb Rb) d] w (RetTwo w ma mb Ra Rb) :=
  two_of (fun _ hW => close_back h0 h7 (ha.below hW)) (fun _ hW => close_back g0 g7 (hb.below hW))

/-- A matrix by its rows. -/
def rowsM (m : Nat) (xs : List Int) : Mat := fun i j => xs.getD (i * m + j) 0
def sameB2 (m : Nat) (C D : Mat) : Bool := (List.range m).all fun i => (List.range m).all fun j => decide (C i j = D i j)
theorem sameB2_same {m : Nat} {C D : Mat} (h : sameB2 m C D = true) : Same m C D := by
  unfold sameB2 at h
  simp only [List.all_eq_true, List.mem_range, decide_eq_true_eq] at h
  exact fun i j hi hj => h i hi j hj
theorem setR_rows {m : Nat} {A : Mat} {xs : List Int} (ha : aliveB m A = true) (hs : sameB2 m (lev A m) (rowsM m xs) = true) : SameO m (setR m A) (some (rowsM m xs)) := by
  rw [setR_yes ((aliveB_iff _ _).1 ha)]
  exact sameB2_same hs
theorem setR_gone {m : Nat} {A : Mat} (ha : aliveB m A = false) : setR m A = none := setR_no (fun h => by rw [(aliveB_iff _ _).2 h] at ha; cases ha)

/-- The zones of 'alive'. -/
def A1 : List Int := [0, 1152921504606846976, 1152921504606846976, 5, 0, 1152921504606846981, 1152921504606846976, 2305843009213693952, 0]
def A2 : List Int := [0, 1152921504606846973, 1152921504606846976, 5, 0, 1152921504606846981, 2, -3, 0]
theorem grdO_in {m : Nat} {C : Mat} {i j : Nat} {c : Int} (hi : i < m) (hj : j < m) : grdO m (some C) (i : Int) (j : Int) c = setR m (grd C i j c) := by
  have e : (knownB ((m : Int) - 1) (i : Int) && knownB ((m : Int) - 1) (j : Int)) = true := by simp [knownB]; omega
  show (if _ then _ else _) = _
  rw [if_pos e]
  rfl
theorem a1_same : SameO 3 (grdO 3 (some far) 1 0 5) (some (rowsM 3 A1)) := by
  have e : grdO 3 (some far) 1 0 5 = setR 3 (grd far 1 0 5) := grdO_in (i := 1) (j := 0) (by decide) (by decide)
  rw [e]
  exact setR_rows (by decide +kernel) (by decide +kernel)
theorem a2_same : SameO 3 (grdO 3 (some (rowsM 3 A1)) 2 1 (-3)) (some (rowsM 3 A2)) := by
  have e : grdO 3 (some (rowsM 3 A1)) 2 1 (-3) = setR 3 (grd (rowsM 3 A1) 2 1 (-3)) := grdO_in (i := 2) (j := 1) (by decide) (by decide)
  rw [e]
  exact setR_rows (by decide +kernel) (by decide +kernel)
theorem a3_none : grdO 3 (some (rowsM 3 A2)) 0 1 (-6) = none := by
  have e : grdO 3 (some (rowsM 3 A2)) 0 1 (-6) = setR 3 (grd (rowsM 3 A2) 0 1 (-6)) := grdO_in (i := 0) (j := 1) (by decide) (by decide)
  rw [e]
  exact setR_gone (by decide +kernel)
theorem a2_span : spO 3 (some (rowsM 3 A2)) 2 = (-1152921504606846976, 2) := by decide +kernel
theorem a2_get : getO 3 (some (rowsM 3 A2)) 2 1 = -3 := by decide +kernel
theorem a2_has : leB 3 (pmat (vof fun k => if k = 0 then 5 else 2)) (rowsM 3 A2) = true := by decide +kernel
end Go.Proofs.YtlkbapcienjdcaaDoor
