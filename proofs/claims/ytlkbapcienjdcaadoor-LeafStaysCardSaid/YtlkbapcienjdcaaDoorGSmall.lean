/- Put together of: Known, Guard, Get, SpanOf, Small. -/
import Derived.Test.YtlkbapcienjdcaaDoorEqual
import Derived.Test.YtlkbapcienjdcaaDoorGNums
import Derived.Test.YtlkbapcienjdcaaDoorZSpan
import Derived.IntWalk
/- The contracts of known, named, Right, and the top. -/
namespace Go.Proofs.YtlkbapcienjdcaaDoor
open Go.RowKit
attribute [local go_sem ↓] Go.wp_at_zero Go.wp_at_succ

def knownB (n i : Int) : Bool := decide (0 ≤ i) && decide (i ≤ n)
def namedB (n i : Int) : Bool := decide (1 ≤ i) && decide (i ≤ n)
set_option maxRecDepth 100000 in
theorem named_any (n i : Int) (A : Option Addr) (len cap : Nat) (w : World) : Calls Tryd.prog 43 #[zoneV n A len cap, .int .i64 i] w (RetB w (namedB n i)) := by
  unfold namedB
  have hb := zboxed w (.cells #[.int .i64 n, .slice A len cap] 39)
  cases h0 : decide (1 ≤ i)
  · go_enter Tryd.func43, Tryd.ntmps43
    go_wp2_with fail
    go_ret
    exact ⟨rfl, hb⟩
  · cases h1 : decide (i ≤ n)
    · go_enter Tryd.func43, Tryd.ntmps43
      go_wp2_with fail
      go_ret
      exact ⟨rfl, hb⟩
    · go_enter Tryd.func43, Tryd.ntmps43
      go_wp2_with fail
      go_ret
      exact ⟨rfl, hb⟩

set_option maxRecDepth 100000 in
set_option maxHeartbeats 1600000 in
/-- The zone of all points. -/
theorem top_any (m : Nat) (hm7 : m ≤ 7) (h0m : 0 < m) (w : World) : Calls Tryd.prog 21 #[.int .i64 ((m : Int) - 1)] w (RetC w m (some far)) := by
  have hmay := (zm_of h0m hm7).1
  have HT := Lib.hid (Duo.new w 39 (.int .i64 0) (.slice none 0 0))
  have HB := Lib.hid (zboxed w (.cells #[.int .i64 0, .slice none 0 0] 39))
  go_enter Tryd.func21, Tryd.ntmps21
  go_wp2_with (go_at_call 39; ((with_reducible refine (may_any _ _).mono ?_); rintro e w' ⟨rfl, rfl⟩))
  refine (fill_any 41 #[] m hm7 h0m far _ (enters_of Tryd.func41 (by kernel_rfl) rfl) (fun i j W hi hj _ => (far_any i j (by omega) (by omega) W).mono (by rintro e w' ⟨rfl, rfl⟩; exact ⟨rfl, Below.refl _ _⟩))).mono ?_
  rintro e w2 ⟨v2, rfl, ho2, hb2⟩
  obtain ⟨g, c2, rfl⟩ := own_slice ho2 (Nat.mul_pos h0m h0m)
  have hg2 := (ho2.lt g rfl).1
  simp only [World.size_alloc] at hg2
  have hD2 := HT.out.below hb2
  have HB2 := Lib.hid (HB.out.trans (hb2.mono HB.out.size))
  have HO2 := Lib.hid ho2
  have d0 := hD2.cell0
  have d1 := hD2.cell1
  have f0 := hD2.frozen0
  have f1 := hD2.frozen1
  clear hb2 ho2
  go_wp2_with fail
  refine post_cell (rb := w.heap.size) Tryd.results21 rfl rfl ((hD2.set0 _).set1 _) ⟨_, c2, rfl, ⟨⟨fun i _ => far_same i, fun i j _ _ => Int.le_refl _, fun k i j _ _ _ => far_tri i j k⟩, g, c2, rfl, ?_⟩, (HB2.out.setCell (p := ⟨w.heap.size, 0, none⟩) (by simp) _).setCell (p := ⟨w.heap.size, 1, none⟩) (by simp) _⟩
  exact own_lower ((HO2.out.kept (duo_grown_setCell _ _ _) (.inr (by simp [Value.ownBlock]; omega))).kept (duo_grown_setCell _ _ _) (.inr (by simp [Value.ownBlock]; omega))) (by simp <;> omega)
end Go.Proofs.YtlkbapcienjdcaaDoor

/- The contract of Guard: any zone, any two variables. -/
namespace Go.Proofs.YtlkbapcienjdcaaDoor
open Go.RowKit
attribute [local go_sem ↓] Go.wp_at_zero Go.wp_at_succ

/-- The box of the zone that was closed, and the result's. -/
def Gd (w W : World) (a a' b b' : Value) : Prop := Duo W w.heap.size 39 a a' ∧ Duo W (w.heap.size + 1) 39 b b' ∧ Below w.heap.size w W
theorem Gd.below {w W W1 : World} {a a' b b' : Value} (h : Gd w W a a' b b') (hb : Below W.heap.size W W1) : Gd w W1 a a' b b' := ⟨h.1.below hb, h.2.1.below hb, h.2.2.trans (hb.mono h.2.2.size)⟩
theorem Gd.put {w W : World} {a a' b b' : Value} (h : Gd w W a a' b b') (x x' : Value) : Gd w ((W.setCell ⟨w.heap.size, 0, none⟩ x).setCell ⟨w.heap.size, 1, none⟩ x') x x' b b' :=
  ⟨(h.1.set0 x).set1 x', (h.2.1.other (by simp) _).other (by simp) _, (h.2.2.setCell (p := ⟨w.heap.size, 0, none⟩) (by simp) _).setCell (p := ⟨w.heap.size, 1, none⟩) (by simp) _⟩
theorem Gd.drew {w W : World} {a a' b b' : Value} (h : Gd w W a a' b b') : Gd w W.drew a a' b b' := ⟨h.1, h.2.1, h.2.2.drew⟩
/-- A bound that is lowered. -/
def grd (C : Mat) (i j : Nat) (c : Int) : Mat := upd C i j (min (C i j) c)
def grdO (m : Nat) (R : Option Mat) (i j c : Int) : Option Mat :=
  match R with
  | none => none
  | some C => if (knownB ((m : Int) - 1) i && knownB ((m : Int) - 1) j) = true then setR m (grd C i.toNat j.toNat c) else some C

end Go.Proofs.YtlkbapcienjdcaaDoor

/- The contracts of Get and Span: any zone. -/
namespace Go.Proofs.YtlkbapcienjdcaaDoor
open Go.RowKit
attribute [local go_sem ↓] Go.wp_at_zero Go.wp_at_succ

/-- The box of the zone that was closed. -/
def Gz (w W : World) (a a' : Value) : Prop := Duo W w.heap.size 39 a a' ∧ Below w.heap.size w W
theorem gz_new (w : World) (a a' : Value) : Gz w (w.alloc (.cells #[a, a'] 39)) a a' := ⟨Duo.new w _ _ _, zboxed _ _⟩
theorem Gz.below {w W W1 : World} {a a' : Value} (h : Gz w W a a') (hb : Below W.heap.size W W1) : Gz w W1 a a' := ⟨h.1.below hb, h.2.trans (hb.mono h.2.size)⟩
theorem Gz.put {w W : World} {a a' : Value} (h : Gz w W a a') (x x' : Value) : Gz w ((W.setCell ⟨w.heap.size, 0, none⟩ x).setCell ⟨w.heap.size, 1, none⟩ x') x x' :=
  ⟨(h.1.set0 x).set1 x', (h.2.setCell (p := ⟨w.heap.size, 0, none⟩) (by simp) _).setCell (p := ⟨w.heap.size, 1, none⟩) (by simp) _⟩
theorem Gz.drew {w W : World} {a a' : Value} (h : Gz w W a a') : Gz w W.drew a a' := ⟨h.1, h.2.drew⟩
def getO (m : Nat) (R : Option Mat) (i j : Int) : Int :=
  match R with
  | none => -2305843009213693952
  | some C => if (knownB ((m : Int) - 1) i && knownB ((m : Int) - 1) j) = true then C i.toNat j.toNat else -2305843009213693952
def RetI (w : World) (x : Int) (e : Ending) (w' : World) : Prop := e = .returned (.int .i64 x) ∧ Below w.heap.size w w'

end Go.Proofs.YtlkbapcienjdcaaDoor

/- The contract of Span: any zone. -/
namespace Go.Proofs.YtlkbapcienjdcaaDoor
open Go.RowKit
attribute [local go_sem ↓] Go.wp_at_zero Go.wp_at_succ
/-- The zone's box, and the span's. -/
def Gs (w W : World) (a a' b b' : Value) : Prop := Duo W w.heap.size 39 a a' ∧ Duo W (w.heap.size + 1) 55 b b' ∧ Below w.heap.size w W
theorem Gs.below {w W W1 : World} {a a' b b' : Value} (h : Gs w W a a' b b') (hb : Below W.heap.size W W1) : Gs w W1 a a' b b' := ⟨h.1.below hb, h.2.1.below hb, h.2.2.trans (hb.mono h.2.2.size)⟩
theorem Gs.drew {w W : World} {a a' b b' : Value} (h : Gs w W a a' b b') : Gs w W.drew a a' b b' := ⟨h.1, h.2.1, h.2.2.drew⟩
theorem gs_new (w : World) (a a' b b' : Value) : Gs w ((w.alloc (.cells #[a, a'] 39)).alloc (.cells #[b, b'] 55)) a a' b b' := by
  have h1 := Duo.new (w.alloc (.cells #[a, a'] 39)) 55 b b'
  simp only [World.size_alloc] at h1
  exact ⟨(Duo.new w _ _ _).alloc _, h1, ((Below.refl _ w).alloc (Nat.le_refl _) _).alloc (by simp) _⟩
theorem Gs.put {w W : World} {a a' b b' : Value} (h : Gs w W a a' b b') (x x' : Value) : Gs w ((W.setCell ⟨w.heap.size + 1, 0, none⟩ x).setCell ⟨w.heap.size + 1, 1, none⟩ x') a a' x x' :=
  ⟨(h.1.other (by simp) _).other (by simp) _, (h.2.1.set0 x).set1 x', (h.2.2.setCell (p := ⟨w.heap.size + 1, 0, none⟩) (by simp) _).setCell (p := ⟨w.heap.size + 1, 1, none⟩) (by simp) _⟩
theorem Gs.cells {w W : World} {a a' b b' : Value} (h : Gs w W a a' b b') : W.cell? ⟨w.heap.size, 0, none⟩ = some a ∧ W.cell? ⟨w.heap.size, 1, none⟩ = some a' := ⟨h.1.cell0, h.1.cell1⟩

set_option maxRecDepth 100000 in
set_option maxHeartbeats 1600000 in
theorem zspan_any {m i g cap base : Nat} {C : Mat} (hm7 : m ≤ 7) (h0 : 0 < m) (hi : i < m) (hC : Closed m C) {W : World} (o : W.ownsRow base 3 1 (.slice (some ⟨g, 0, none⟩) (m * m) cap) (m * m) ((flatL m C).map (Value.int .i64))) :
    Calls Tryd.prog 77 #[zoneV ((m : Int) - 1) (some ⟨g, 0, none⟩) (m * m) cap, .int .i64 (i : Int)] W (RetSpan (ofL (-C 0 i) (C i 0)) (ofH (-C 0 i) (C i 0)) W) := by
  have b1 := hC.bd h0 hi
  have b2 := hC.bd hi h0
  have HA : Hid (∀ X, Below W.heap.size W X → Calls Tryd.prog 53 #[zoneV ((m : Int) - 1) (some ⟨g, 0, none⟩) (m * m) cap, .int .i64 0, .int .i64 (i : Int)] X (ZRetInt (C 0 i) X)) := Lib.hid (fun X hb => at_own hm7 h0 hi (own_kept_below o hb))
  have HC : Hid (∀ X, Below W.heap.size W X → Calls Tryd.prog 53 #[zoneV ((m : Int) - 1) (some ⟨g, 0, none⟩) (m * m) cap, .int .i64 (i : Int), .int .i64 0] X (ZRetInt (C i 0) X)) := Lib.hid (fun X hb => at_own hm7 hi h0 (own_kept_below o hb))
  have G0 := Lib.hid (gs_new W (.int .i64 ((m : Int) - 1)) (.slice (some ⟨g, 0, none⟩) (m * m) cap) (.int .i64 0) (.int .i64 0)).drew
  have K0 := Lib.hid G0.out.cells
  have HB0 := Lib.hid G0.out.2.2
  have hw : IntKind.i64.wrap (-C 0 i) = -C 0 i := IntWalk.i64_in _ (by omega)
  generalize C 0 i = x at *
  generalize C i 0 = y at *
  clear o
  go_enter Tryd.func77, Tryd.ntmps77
  go_wp2_with fail
  go_region_held3 (fun w' => w'.cell? ⟨W.heap.size, 0, none⟩ = some (.int .i64 ((m : Int) - 1)) ∧ w'.cell? ⟨W.heap.size, 1, none⟩ = some (.slice (some ⟨g, 0, none⟩) (m * m) cap))
    (first | (with_reducible exact K0.out) | (with_reducible exact K1.out) | (with_reducible exact K2.out) | (with_reducible exact K3.out) | (with_reducible exact K4.out))
    (first
      | (go_at_call 53; ((with_reducible refine (HA.out _ HB0.out).mono ?_); rintro e w1 ⟨rfl, hb1⟩); have G1 := Lib.hid (G0.out.below hb1); have K1 := Lib.hid G1.out.cells; have HB1 := Lib.hid G1.out.2.2)
      | (go_at_call 53; ((with_reducible refine (HC.out _ HB1.out).mono ?_); rintro e w2 ⟨rfl, hb2⟩); have G2 := Lib.hid (G1.out.below hb2); have K2 := Lib.hid G2.out.cells; have HB2 := Lib.hid G2.out.2.2)
      | (go_at_call 63; ((with_reducible refine (of_any _ _ _).mono ?_); rintro e w3 ⟨rfl, hb3⟩); have G3 := Lib.hid (G2.out.below hb3); have K3 := Lib.hid G3.out.cells; have f0 := G3.out.2.1.cell0; have f1 := G3.out.2.1.cell1; have f2 := G3.out.2.1.frozen0; have f3 := G3.out.2.1.frozen1; have G4 := Lib.hid (G3.out.put (.int .i64 (ofL (-x) y)) (.int .i64 (ofH (-x) y))); have K4 := Lib.hid G4.out.cells))
  all_goals go_wp2_with fail
  all_goals exact bodyPost_ret (v := .agg #[.int .i64 (ofL (-x) y), .int .i64 (ofH (-x) y)]) (by simp [results, Tryd.results77, go_sem, G4.out.2.1.cell0, G4.out.2.1.cell1]) rfl ⟨rfl, G4.out.2.2⟩

def spO (m : Nat) (R : Option Mat) (i : Int) : Int × Int :=
  match R with
  | none => (1, 0)
  | some C => if namedB ((m : Int) - 1) i = true then (ofL (-C 0 i.toNat) (C i.toNat 0), ofH (-C 0 i.toNat) (C i.toNat 0)) else (1, 0)
theorem Gs.set {w W : World} {a a' b b' : Value} (h : Gs w W a a' b b') (x x' : Value) : Gs w ((W.setCell ⟨w.heap.size, 0, none⟩ x).setCell ⟨w.heap.size, 1, none⟩ x') x x' b b' :=
  ⟨(h.1.set0 x).set1 x', (h.2.1.other (by simp) _).other (by simp) _, (h.2.2.setCell (p := ⟨w.heap.size, 0, none⟩) (by simp) _).setCell (p := ⟨w.heap.size, 1, none⟩) (by simp) _⟩

end Go.Proofs.YtlkbapcienjdcaaDoor

/- The contracts of Text of the bottom, value, and of the statements' own small functions. -/
namespace Go.Proofs.YtlkbapcienjdcaaDoor
open Go.RowKit
attribute [local go_sem ↓] Go.wp_at_zero Go.wp_at_succ

set_option maxRecDepth 100000 in
set_option maxHeartbeats 1600000 in
theorem text_none {w : World} {N : Int} {Az : Option Addr} {lz cz m : Nat}
    (K : ∀ W, Below w.heap.size w W → Calls Tryd.prog 32 #[zoneV N Az lz cz] W (RetC W m none)) :
    Calls Tryd.prog 28 #[zoneV N Az lz cz] w fun e w' => e = .returned (.string ⟨#[98, 111, 116, 116, 111, 109]⟩) ∧ Below w.heap.size w w' := by
  have HT := Lib.hid (gz_new w (.int .i64 N) (.slice Az lz cz))
  have HB := Lib.hid HT.out.2
  have HK := Lib.hid K
  clear K
  have e0 : rlen m (none : Option Mat) = 0 := rfl
  go_enter Tryd.func28, Tryd.ntmps28
  go_wp2_with (first
    | (go_at_call 32; ((with_reducible refine (HK.out _ HB.out).mono ?_); rintro e w1 ⟨A, c1, rfl, hz1, hb1⟩); have hF1 : Gz w w1 _ _ := Gz.below HT.out hb1; have y0 := hF1.1.cell0; have y1 := hF1.1.cell1; have y4 := hF1.1.frozen0; have y5 := hF1.1.frozen1)
    | (go_at_call 36; ((with_reducible refine (none_any _ _ _ _ _).mono ?_); rintro e w3 ⟨rfl, hb3⟩); have hF2 := (hF1.put (.int .i64 ((m : Int) - 1)) (.slice A 0 c1)).below hb3))
  go_ret
  exact ⟨rfl, hF2.2⟩

end Go.Proofs.YtlkbapcienjdcaaDoor
