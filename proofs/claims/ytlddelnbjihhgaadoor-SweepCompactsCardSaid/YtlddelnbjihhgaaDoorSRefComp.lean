/- The contract of the document's Compact. -/
import Derived.Test.YtlddelnbjihhgaaDoorSRefMove
import Derived.Test.YtlddelnbjihhgaaDoorSComp
import Derived.Test.YtlddelnbjihhgaaDoorCBuild
import Derived.Deep.LoopGhost
namespace Go.Proofs.YtlddelnbjihhgaaDoor
open Go.RowKit
attribute [local go_sem ↓] Go.wp_at_zero Go.wp_at_succ

/-- Ahead of the second loop: the arena's box and the result's. -/
structure RB (W0 : World) (limF : Nat) (L : List Nd) (A : Option Addr) (c : Nat) (ba br : Nat) (W : World) : Prop where
  a : Blk W ba 46 #[.int .i64 limF, .slice A L.length c]
  r : Blk W br 46 #[.int .i64 0, .slice none 0 0]
  ra : RefA W A c L
  low : Below W0.heap.size W0 W
/-- Within the second loop. -/
structure RC (W0 : World) (lim limF : Nat) (L : List Nd) (A : Option Addr) (c : Nat) (ba br bt : Nat) (A2 : Option Addr) (c2 : Nat) (M : List Nd) (v : Value) (R : List Int) (W : World) : Prop where
  a : Blk W ba 46 #[.int .i64 limF, .slice A L.length c]
  r : Blk W br 46 #[.int .i64 0, .slice none 0 0]
  t : Blk W bt 46 #[.int .i64 lim, .slice A2 M.length c2]
  m : RM W lim L [] A c A2 c2 M
  row : W.ownsRow W0.heap.size 3 1 v R.length (R.map (Value.int .i64))
  low : Below W0.heap.size W0 W
  nt : W0.heap.size ≤ bt
  nr : W0.heap.size ≤ br
  d1 : ba ≠ bt
  d2 : br ≠ bt
section
variable {W0 W W1 : World} {lim limF : Nat} {L M M1 : List Nd} {A A2 A3 : Option Addr} {c c2 c3 ba bt br nx : Nat} {v : Value} {R : List Int}
theorem RB.below (h : RB W0 limF L A c ba br W) (hb : Below W.heap.size W W1) : RB W0 limF L A c ba br W1 := ⟨h.a.below hb h.a.lt, h.r.below hb h.r.lt, h.ra.below hb, h.low.trans (hb.mono h.low.size)⟩
theorem RC.below (h : RC W0 lim limF L A c ba br bt A2 c2 M v R W) (hb : Below W.heap.size W W1) : RC W0 lim limF L A c ba br bt A2 c2 M v R W1 :=
  ⟨h.a.below hb h.a.lt, h.r.below hb h.r.lt, h.t.below hb h.t.lt, h.m.below hb, own_below h.row hb, h.low.trans (hb.mono h.low.size), h.nt, h.nr, h.d1, h.d2⟩
/-- Another box is stored to. -/
theorem RC.else_ (h : RC W0 lim limF L A c ba br bt A2 c2 M v R W) {nx : Nat} {cs : Array Value} (hx : Blk W nx 46 cs) (h1 : ba ≠ nx) (h2 : br ≠ nx) (h3 : bt ≠ nx) (h4 : W0.heap.size ≤ nx) (ho : Only (fun i => i = nx) W W1) : RC W0 lim limF L A c ba br bt A2 c2 M v R W1 :=
  ⟨ho.blk h.a h1, ho.blk h.r h2, ho.blk h.t h3, ⟨h.m.src.else_ hx ho, h.m.dst.else_ hx ho, h.m.rightF, h.m.rightT, h.m.came, h.m.room⟩, ho.row h.row (fun g e e2 => own_blk_ne h.row hx (by decide) (e2 ▸ e)), h.low.trans (ho.below h.low.size fun _ hi => hi ▸ h4), h.nt, h.nr, h.d1, h.d2⟩
theorem RC.cells (h : RC W0 lim limF L A c ba br bt A2 c2 M v R W) : (W.cell? ⟨ba, 0, none⟩ = some (.int .i64 limF) ∧ W.cell? ⟨ba, 1, none⟩ = some (.slice A L.length c)) ∧ W.cell? ⟨bt, 0, none⟩ = some (.int .i64 lim) ∧ W.cell? ⟨bt, 1, none⟩ = some (.slice A2 M.length c2) :=
  ⟨⟨h.a.cell 0, h.a.cell 1⟩, h.t.cell 0, h.t.cell 1⟩
theorem RC.keep (h : RC W0 lim limF L A c ba br bt A2 c2 M v R W) (hb : Below W.heap.size W W1) : (W1.cell? ⟨ba, 0, none⟩ = some (.int .i64 limF) ∧ W1.cell? ⟨ba, 1, none⟩ = some (.slice A L.length c)) ∧ W1.cell? ⟨bt, 0, none⟩ = some (.int .i64 lim) ∧ W1.cell? ⟨bt, 1, none⟩ = some (.slice A2 M.length c2) := (h.below hb).cells
/-- How the document's Compact ends. -/
def RetRC (lim m : Nat) (M : List Nd) (R : List Int) (cc : Int) (w : World) (e : Ending) (w' : World) : Prop :=
  (cc = 0 ∧ ∃ A2 c2 v, e = .returned (.tuple #[.agg #[.int .i64 lim, .slice A2 M.length c2], v, .int .i64 0]) ∧ RefA w' A2 c2 M ∧ w'.ownsRow w.heap.size 3 1 v m (R.map (Value.int .i64)) ∧ Below w.heap.size w w') ∨
  (cc ≠ 0 ∧ e = .returned (.tuple #[.agg #[.int .i64 0, .slice none 0 0], .slice none 0 0, .int .i64 cc]) ∧ Below w.heap.size w w')
theorem rb_start (h : RefA W A c L) : RB W limF L A c W.heap.size (W.heap.size + 1) ((W.alloc (.cells #[.int .i64 limF, .slice A L.length c] 46)).alloc (.cells #[.int .i64 0, .slice none 0 0] 46)) := by
  have s1 := size_up (rfl : W.heap.size = W.heap.size) (.cells #[.int .i64 limF, .slice A L.length c] 46)
  have hb := ((Below.refl W.heap.size W).alloc (Nat.le_refl _) (.cells #[.int .i64 limF, .slice A L.length c] 46)).alloc (by rw [s1]; omega) (.cells #[.int .i64 0, .slice none 0 0] 46)
  exact ⟨(Blk.new_ (rfl : W.heap.size = W.heap.size) _ _).up _, Blk.new_ s1 _ _, h.below hb, hb⟩
theorem RB.keep (h : RB W0 limF L A c ba br W) (hb : Below W.heap.size W W1) : W1.cell? ⟨ba, 0, none⟩ = some (.int .i64 limF) ∧ W1.cell? ⟨ba, 1, none⟩ = some (.slice A L.length c) := ⟨(h.below hb).a.cell 0, (h.below hb).a.cell 1⟩
theorem RB.has (h : RB W0 limF L A c ba br W) {r : Int} {b : Bool} (hb : hasP L.length r = b) : Calls Tryd.prog 32 #[.agg #[.int .i64 limF, .slice A L.length c], .int .i64 r] W (RetRB (.bool b) W) := rhas_named hb h.ra
set_option maxRecDepth 100000 in
set_option maxHeartbeats 3200000 in
theorem rcomp_no {A1 : Option Addr} {m c1 i0 : Nat} {f : Nat → Int} (h : RefA W A c L) (hI : Ints W A1 m f) (_ : m ≤ 30) (h0 : i0 < m) (hno : hasP L.length (f i0) = false) (hyes : ∀ j, j < i0 → hasP L.length (f j) = true) (l : Int) {M : List Nd} {R : List Int} :
    Calls Tryd.prog 28 #[.agg #[.int .i64 limF, .slice A L.length c], .slice A1 m c1, .int .i64 l] W (RetRC lim m M R 1 W) := by
  have HS := Lib.hid (rb_start (limF := limF) h)
  have HI := Lib.hid hI
  have HNo := Lib.hid hno
  have HYes := Lib.hid hyes
  have H0 := Lib.hid h0
  have hfew := h.2
  have hcap := h.cap
  clear h hI hno hyes h0
  go_enter Tryd.func28, Tryd.ntmps28
  go_wp2_with fail
  obtain ⟨ba, hba⟩ : ∃ ba, W.heap.size = ba := ⟨_, rfl⟩
  obtain ⟨br, hbr⟩ : ∃ br, ba + 1 = br := ⟨_, rfl⟩
  have HNr : Hid (W.heap.size ≤ br) := Lib.hid (by omega)
  rw [hba, hbr] at HS
  rw [hba, hbr]
  clear hba hbr
  go_loopg [9] m (fun gk t9 wr => ∃ i : Nat, i + gk = m ∧ t9 = .int .i64 (i : Int) ∧ RB W limF L A c ba br wr ∧ i ≤ i0)
  case atStart => exact ⟨0, by omega, rfl, HS.out, Nat.zero_le _⟩
  case round =>
    clear HS
    rename Nat => g0
    obtain ⟨i, hi, rfl, hS, hle⟩ := hrel
    have HS := Lib.hid hS
    have HI2 := Lib.hid hi
    have him : i < m := by have := H0.out; omega
    obtain ⟨b, off, x, hA, hblt, hf, k0⟩ := (HI.out.below hS.low).at_ him
    subst hA
    have HD := Lib.hid (hS.below (Below.refl _ _).drew)
    have K0 : Hid ((wr.drew.cell? ⟨ba, 0, none⟩ = some (.int .i64 limF) ∧ wr.drew.cell? ⟨ba, 1, none⟩ = some (.slice A L.length c)) ∧ wr.drew.cell? ⟨b, off + i, none⟩ = some (.int .i64 x)) := Lib.hid ⟨hS.keep (Below.refl _ _).drew, k0⟩
    have q0 : wr.cell? ⟨ba, 0, none⟩ = some (.int .i64 limF) := hS.a.cell 0
    have q1 : wr.cell? ⟨ba, 1, none⟩ = some (.slice A L.length c) := hS.a.cell 1
    clear hi hS
    by_cases he : i = i0
    · subst he
      have HH := Lib.hid (HD.out.has (hf ▸ HNo.out))
      clear hf hle
      go_wp2_with fail
      go_region_held3 (fun w => (w.cell? ⟨ba, 0, none⟩ = some (.int .i64 limF) ∧ w.cell? ⟨ba, 1, none⟩ = some (.slice A L.length c)) ∧ w.cell? ⟨b, off + i, none⟩ = some (.int .i64 x))
        (first | (with_reducible exact K0.out) | (with_reducible exact K1.out))
        (first
          | (go_at_call 32; ((with_reducible refine HH.out.mono ?_); rintro e w2 ⟨rfl, hb2⟩); have H2 := Lib.hid (HD.out.below hb2); have K1 := Lib.hid (And.intro (HD.out.keep hb2) ((hb2.cell (p := ⟨b, off + i, none⟩) hblt).trans K0.out.2)); clear hb2))
      have z0 : w2.cell? ⟨br, 0, none⟩ = some (.int .i64 0) := H2.out.r.cell 0
      have z1 : w2.cell? ⟨br, 1, none⟩ = some (.slice none 0 0) := H2.out.r.cell 1
      have z2 := H2.out.r.frozen 0
      have z3 := H2.out.r.frozen 1
      have z4 := H2.out.r.lt
      go_wp2_with fail
      have hk := (H2.out.r.set_ 0 (.int .i64 0)).set_ 1 (.slice none 0 0)
      have r0 := hk.cell 0
      have r1 := hk.cell 1
      simp only [List.setIfInBounds_toArray, List.set_cons_zero, List.set_cons_succ, List.getElem?_toArray, List.getElem?_cons_zero, List.getElem?_cons_succ] at r0 r1
      refine bodyPost_ret (v := .tuple #[.agg #[.int .i64 0, .slice none 0 0], .slice none 0 0, .int .i64 1]) (by simp [results, Tryd.results28, go_sem, r0, r1]) rfl ?_
      exact .inr ⟨by decide, rfl, H2.out.low.trans ((only_two w2 br (.int .i64 0) (.slice none 0 0)).below H2.out.low.size fun _ hi => hi ▸ HNr.out)⟩
    · have HH := Lib.hid (HD.out.has (hf ▸ HYes.out i (by omega)))
      have HLe := Lib.hid (show i + 1 ≤ i0 by omega)
      clear hf hle he
      go_wp2_with fail
      go_region_held3 (fun w => (w.cell? ⟨ba, 0, none⟩ = some (.int .i64 limF) ∧ w.cell? ⟨ba, 1, none⟩ = some (.slice A L.length c)) ∧ w.cell? ⟨b, off + i, none⟩ = some (.int .i64 x))
        (first | (with_reducible exact K0.out) | (with_reducible exact K1.out))
        (first
          | (go_at_call 32; ((with_reducible refine HH.out.mono ?_); rintro e w2 ⟨rfl, hb2⟩); have H2 := Lib.hid (HD.out.below hb2); have K1 := Lib.hid (And.intro (HD.out.keep hb2) ((hb2.cell (p := ⟨b, off + i, none⟩) hblt).trans K0.out.2)); clear hb2))
      go_wp2_with fail
      have hi := HI2.out
      go_roundg (g0 - 1)
      case measure => omega
      case rel => exact ⟨i + 1, by omega, by simp, H2.out, HLe.out⟩
theorem rc_start (h : RB W0 limF L A c ba br W) (hR : RightL L) (hL : L.length ≤ 100) (hn : W0.heap.size ≤ br) : RC W0 lim limF L A c ba br W.heap.size none 0 [] (.slice none 0 0) [] (W.alloc (.cells #[.int .i64 lim, .slice none 0 0] 46)) := by
  have hb := (Below.refl W.heap.size W).alloc (Nat.le_refl _) (.cells #[.int .i64 lim, .slice none 0 0] 46)
  have h1 := h.below hb
  have ha := h.a.lt
  have hr := h.r.lt
  exact ⟨h1.a, h1.r, Blk.new _ _ _, ⟨h1.ra, refA_none _, hR, right_none, came_start [], by simp; omega⟩, World.ownsRow_nil _ _ _ _, h1.low, h.low.size, hn, by omega, by omega⟩
theorem RC.end_ (h : RC W0 lim limF L A c ba br bt A2 c2 M v R W) (x y : Value) : Only (fun i => i = br) W ((W.setCell ⟨br, 0, none⟩ x).setCell ⟨br, 1, none⟩ y) ∧ Below W0.heap.size W0 ((W.setCell ⟨br, 0, none⟩ x).setCell ⟨br, 1, none⟩ y) ∧ ((W.setCell ⟨br, 0, none⟩ x).setCell ⟨br, 1, none⟩ y).cell? ⟨br, 0, none⟩ = some x ∧ ((W.setCell ⟨br, 0, none⟩ x).setCell ⟨br, 1, none⟩ y).cell? ⟨br, 1, none⟩ = some y := by
  have ho := only_two W br x y
  have hk := (h.r.set_ 0 x).set_ 1 y
  have r0 := hk.cell 0
  have r1 := hk.cell 1
  simp only [List.setIfInBounds_toArray, List.set_cons_zero, List.set_cons_succ, List.getElem?_toArray, List.getElem?_cons_zero, List.getElem?_cons_succ] at r0 r1
  exact ⟨ho, h.low.trans (ho.below h.low.size fun _ hi => hi ▸ h.nr), r0, r1⟩
/-- A root was moved: the next arena lies in a box of its own. -/
structure RN (W0 : World) (lim limF : Nat) (L : List Nd) (A : Option Addr) (c : Nat) (ba br bt : Nat) (A2 : Option Addr) (c2 : Nat) (M : List Nd) (v : Value) (R : List Int) (nx : Nat) (A3 : Option Addr) (c3 : Nat) (M1 : List Nd) (W : World) : Prop where
  rc : RC W0 lim limF L A c ba br bt A2 c2 M v R W
  box : Blk W nx 46 #[.int .i64 lim, .slice A3 M1.length c3]
  ref : RefA W A3 c3 M1
/-- It is taken over, and the root's ref is appended. -/
theorem RN.take {r y : Int} (h : RN W0 lim limF L A c ba br bt A2 c2 M v R nx A3 c3 M1 W) (hm : mvP lim L r M = (M1, y, 0)) : RC W0 lim limF L A c ba br bt A3 c3 M1 v R ((W.setCell ⟨bt, 0, none⟩ (.int .i64 lim)).setCell ⟨bt, 1, none⟩ (.slice A3 M1.length c3)) := by
  have ho := only_two W bt (.int .i64 lim) (.slice A3 M1.length c3)
  have hk := (h.rc.t.set_ 0 (.int .i64 lim)).set_ 1 (.slice A3 M1.length c3)
  refine ⟨ho.blk h.rc.a h.rc.d1, ho.blk h.rc.r h.rc.d2, by simpa using hk, h.rc.m.next (h.rc.m.src.else_ h.rc.t ho) hm (h.ref.else_ h.rc.t ho), ho.row h.rc.row (fun g e e2 => own_blk_ne h.rc.row h.rc.t (by decide) (e2 ▸ e)), h.rc.low.trans (ho.below h.rc.low.size fun _ hi => hi ▸ h.rc.nt), h.rc.nt, h.rc.nr, h.rc.d1, h.rc.d2⟩
theorem refA_grown {W1 : World} (h : RefA W A c L) {B : Nat} (hv : W.ownsRow B 3 1 v R.length (R.map (Value.int .i64))) (hg : W.grownBy W1 v.ownBlock) : RefA W1 A c L := by
  refine ⟨h.1.kept hg ?_, h.2⟩
  cases hb : v.ownBlock with
  | none => cases (Value.slice A L.length c).ownBlock <;> simp
  | some g => exact .inr (own_row_ne hv h.1 (by decide) hb)
theorem RC.append {W1 : World} {x : Int} {v' : Value} (h : RC W0 lim limF L A c ba br bt A2 c2 M v R W) (ho : W1.ownsRow W0.heap.size 3 1 v' (R.length + 1) (R.map (Value.int .i64) ++ [.int .i64 x])) (hg : W.grownBy W1 v.ownBlock) : RC W0 lim limF L A c ba br bt A2 c2 M v' (R ++ [x]) W1 := by
  have hn : ∀ b cs, Blk W b 46 cs → some b ≠ v.ownBlock := fun b cs hb e => own_blk_ne h.row hb (by decide) e.symm
  refine ⟨h.a.grown hg (hn _ _ h.a), h.r.grown hg (hn _ _ h.r), h.t.grown hg (hn _ _ h.t), ⟨refA_grown h.m.src h.row hg, refA_grown h.m.dst h.row hg, h.m.rightF, h.m.rightT, h.m.came, h.m.room⟩, ?_, h.low.grown hg h.low.size (fun k hk => (h.row.lt k hk).1), h.nt, h.nr, h.d1, h.d2⟩
  rw [List.length_append, List.map_append]
  exact ho
set_option maxRecDepth 100000 in
set_option maxHeartbeats 12800000 in
theorem rcomp_yes {A1 : Option Addr} {m c1 : Nat} {f : Nat → Int} (h : RefA W A c L) (hR : RightL L) (hI : Ints W A1 m f) (_ : m ≤ 30) (hlen : L.length ≤ 100) (hall : ∀ j, j < m → hasP L.length (f j) = true) {l : Int} (hlim : l.toNat = lim) {Mz : List Nd} {Rz : List Int} {cz : Int} (hz : cmpP lim L f m = (Mz, Rz, cz)) :
    Calls Tryd.prog 28 #[.agg #[.int .i64 limF, .slice A L.length c], .slice A1 m c1, .int .i64 l] W (RetRC lim m Mz Rz cz W) := by
  have HS := Lib.hid (rb_start (limF := limF) h)
  have HI := Lib.hid hI
  have HAll := Lib.hid hall
  have HZ := Lib.hid hz
  have HR := Lib.hid hR
  have hfew := h.2
  have hcap := h.cap
  have HN := Lib.hid (fun W1 : World => rnew_any hlim W1)
  have hinfo : (Tryd.prog.info? 3).map (fun i => (i.zero, i.size, i.bytes)) = some (some (.int .i64 0), 1, 8) := by kernel_rfl
  obtain ⟨i0, hi0, hz0, hz1, hz2⟩ := info_parts hinfo
  have HI0 := Lib.hid (And.intro hi0 (And.intro hz0 (And.intro hz1 hz2)))
  clear h hI hall hz hR hlim hinfo hi0 hz0 hz1 hz2
  go_enter Tryd.func28, Tryd.ntmps28
  go_wp2_with fail
  obtain ⟨ba, hba⟩ : ∃ ba, W.heap.size = ba := ⟨_, rfl⟩
  obtain ⟨br, hbr⟩ : ∃ br, ba + 1 = br := ⟨_, rfl⟩
  have HNr : Hid (W.heap.size ≤ br) := Lib.hid (by omega)
  rw [hba, hbr] at HS
  rw [hba, hbr]
  clear hba hbr
  go_loopg [9] m (fun gk t9 wr => ∃ i : Nat, i + gk = m ∧ t9 = .int .i64 (i : Int) ∧ RB W limF L A c ba br wr)
  case atStart => exact ⟨0, by omega, rfl, HS.out⟩
  case round =>
    clear HS
    rename Nat => g0
    obtain ⟨i, hi, rfl, hS⟩ := hrel
    have HS := Lib.hid hS
    have HI2 := Lib.hid hi
    clear hi
    by_cases him : i < m
    · obtain ⟨b, off, x, hA, hblt, hf, k0⟩ := (HI.out.below hS.low).at_ him
      subst hA
      have HD := Lib.hid (hS.below (Below.refl _ _).drew)
      have K0 : Hid ((wr.drew.cell? ⟨ba, 0, none⟩ = some (.int .i64 limF) ∧ wr.drew.cell? ⟨ba, 1, none⟩ = some (.slice A L.length c)) ∧ wr.drew.cell? ⟨b, off + i, none⟩ = some (.int .i64 x)) := Lib.hid ⟨hS.keep (Below.refl _ _).drew, k0⟩
      have HH := Lib.hid (HD.out.has (hf ▸ HAll.out i him))
      clear hf hS
      go_wp2_with fail
      go_region_held3 (fun w => (w.cell? ⟨ba, 0, none⟩ = some (.int .i64 limF) ∧ w.cell? ⟨ba, 1, none⟩ = some (.slice A L.length c)) ∧ w.cell? ⟨b, off + i, none⟩ = some (.int .i64 x))
        (first | (with_reducible exact K0.out) | (with_reducible exact K1.out))
        (first
          | (go_at_call 32; ((with_reducible refine HH.out.mono ?_); rintro e w2 ⟨rfl, hb2⟩); have H2 := Lib.hid (HD.out.below hb2); have K1 := Lib.hid (And.intro (HD.out.keep hb2) ((hb2.cell (p := ⟨b, off + i, none⟩) hblt).trans K0.out.2)); clear hb2))
      go_wp2_with fail
      have hi := HI2.out
      go_roundg (g0 - 1)
      case measure => omega
      case rel => exact ⟨i + 1, by omega, by simp, H2.out⟩
    · have hie : m = i := by have := HI2.out; omega
      subst hie
      clear hS HI2 him
      go_wp2_with (first
        | (go_at_call 63; ((with_reducible refine (HN.out _).mono ?_); rintro e w1 ⟨rfl, hb1⟩); have HC0 := Lib.hid (rc_start (lim := lim) (HS.out.below hb1) HR.out hlen HNr.out); clear hb1))
      obtain ⟨bt, hbt⟩ : ∃ bt, w1.heap.size = bt := ⟨_, rfl⟩
      rw [hbt] at HC0 ⊢
      obtain ⟨V, hV⟩ : ∃ V, w1.alloc (.cells #[.int .i64 lim, .slice none 0 0] 46) = V := ⟨_, rfl⟩
      rw [hV] at HC0 ⊢
      clear hbt hV HS HN HAll
      go_loopg [11, 12] m (fun gk t11 t12 wr => ∃ (i : Nat) (A2 : Option Addr) (c2 : Nat) (M : List Nd) (R : List Int), i + gk = m ∧ t12 = .int .i64 (i : Int) ∧ cmpP lim L f i = (M, R, 0) ∧ RC W lim limF L A c ba br bt A2 c2 M t11 R wr)
      case atStart => exact ⟨0, none, 0, [], [], by omega, rfl, rfl, HC0.out⟩
      case round =>
        clear HC0
        rename Nat => g1
        obtain ⟨i, A2, c2, M, R, hi, rfl, hcm, hC⟩ := hrel
        have HC := Lib.hid hC
        have HI2 := Lib.hid hi
        have HCm := Lib.hid hcm
        have hRl := (cmp_all HR.out hcm).2.1
        have hfew2 := hC.m.few
        have hcap2 := hC.m.dst.cap
        clear hi hcm
        by_cases him : i < m
        · obtain ⟨b, off, x, hA, hblt, hf, k0⟩ := (HI.out.below hC.low).at_ him
          subst hA
          obtain ⟨M1, y, cc, hm1⟩ : ∃ M1 y cc, mvP lim L x M = (M1, y, cc) := ⟨_, _, _, rfl⟩
          have HM1 := Lib.hid hm1
          have HFx := Lib.hid hf
          have HKm : Hid (∀ Wc, Below wr.heap.size wr Wc → Calls Tryd.prog 34 #[.agg #[.int .i64 limF, .slice A L.length c], .agg #[.int .i64 lim, .slice A2 M.length c2], .int .i64 x] Wc (RetRMk lim M1 y cc Wc)) := Lib.hid fun Wc hb => rmove_all HR.out x Wc _ _ _ _ _ _ _ _ (HC.out.m.below hb) hm1
          have HKeep : Hid (∀ Wc, Below wr.heap.size wr Wc → ((Wc.cell? ⟨ba, 0, none⟩ = some (.int .i64 limF) ∧ Wc.cell? ⟨ba, 1, none⟩ = some (.slice A L.length c)) ∧ Wc.cell? ⟨bt, 0, none⟩ = some (.int .i64 lim) ∧ Wc.cell? ⟨bt, 1, none⟩ = some (.slice A2 M.length c2)) ∧ Wc.cell? ⟨b, off + i, none⟩ = some (.int .i64 x)) := Lib.hid fun Wc hb => ⟨HC.out.keep hb, (hb.cell (p := ⟨b, off + i, none⟩) hblt).trans k0⟩
          have HB1 := Lib.hid (Below.refl wr.heap.size wr).drew
          have HB2 := Lib.hid ((Below.refl wr.heap.size wr).alloc (Nat.le_refl _) (.cells #[.int .i64 0, .slice none 0 0] 46)).drew
          have HXn : Hid (Blk (wr.alloc (.cells #[.int .i64 0, .slice none 0 0] 46)).drew wr.heap.size 46 #[.int .i64 0, .slice none 0 0]) := Lib.hid ((Blk.new wr 46 #[.int .i64 0, .slice none 0 0]).below (Below.refl _ _).drew (Blk.new wr 46 #[.int .i64 0, .slice none 0 0]).lt)
          have K1 := Lib.hid (HKeep.out _ HB1.out)
          have K2 := Lib.hid (HKeep.out _ HB2.out)
          clear hm1 hf hC
          go_wp2_with fail
          go_region_held3 (fun w => ((w.cell? ⟨ba, 0, none⟩ = some (.int .i64 limF) ∧ w.cell? ⟨ba, 1, none⟩ = some (.slice A L.length c)) ∧ w.cell? ⟨bt, 0, none⟩ = some (.int .i64 lim) ∧ w.cell? ⟨bt, 1, none⟩ = some (.slice A2 M.length c2)) ∧ w.cell? ⟨b, off + i, none⟩ = some (.int .i64 x))
            (first | (with_reducible exact K1.out) | (with_reducible exact K2.out) | (with_reducible exact K3.out) | (with_reducible exact K4.out) | (with_reducible exact K5.out))
            (first
              | (go_at_call 34; ((with_reducible refine (HKm.out _ HB1.out).mono ?_); rintro e w3 ⟨A3, c3, rfl, hr3, hb3⟩); have HB3 := Lib.hid (HB1.out.trans (hb3.mono HB1.out.size)); have K3 := Lib.hid (HKeep.out _ HB3.out); have K4 := Lib.hid (HKeep.out _ (HB3.out.alloc HB3.out.size (.cells #[.int .i64 0, .slice none 0 0] 46))); have K5 := Lib.hid (HKeep.out _ (HB3.out.alloc HB3.out.size (.cells #[.int .i64 lim, .slice A3 M1.length c3] 46))); have HR3 := Lib.hid hr3; clear hb3 hr3)
              | (go_at_call 34; ((with_reducible refine (HKm.out _ HB2.out).mono ?_); rintro e w3 ⟨A3, c3, rfl, hr3, hb3⟩); have HB3 := Lib.hid (HB2.out.trans (hb3.mono HB2.out.size)); have K3 := Lib.hid (HKeep.out _ HB3.out); have K5 := Lib.hid (HKeep.out _ (HB3.out.trans (((only_two w3 wr.heap.size (.int .i64 lim) (.slice A3 M1.length c3)).below HB3.out.size fun _ hi => Nat.le_of_eq hi.symm)))); have HX3 := Lib.hid ((HXn.out.below hb3 HXn.out.lt)); have j0 : w3.cell? ⟨wr.heap.size, 0, none⟩ = some (.int .i64 0) := HX3.out.cell 0; have j1 : w3.cell? ⟨wr.heap.size, 1, none⟩ = some (.slice none 0 0) := HX3.out.cell 1; have j2 := HX3.out.frozen 0; have j3 := HX3.out.frozen 1; have j4 := HX3.out.lt; have HR3 := Lib.hid hr3; clear hb3 hr3))
          · have HRa : RN W lim limF L A c ba br bt A2 c2 M u11 R w3.heap.size A3 c3 M1 (w3.alloc (.cells #[.int .i64 lim, .slice A3 M1.length c3] 46)) :=
              ⟨HC.out.below (HB3.out.alloc HB3.out.size _), Blk.new _ _ _, HR3.out.below ((Below.refl _ _).alloc (Nat.le_refl _) _)⟩
            have HRn := Lib.hid HRa
            obtain ⟨V, hV⟩ : ∃ V, w3.alloc (.cells #[.int .i64 lim, .slice A3 M1.length c3] 46) = V := ⟨_, rfl⟩
            obtain ⟨nx, hnx⟩ : ∃ nx, w3.heap.size = nx := ⟨_, rfl⟩
            rw [hV, hnx] at HRn
            rw [hV, hnx]
            clear hV hnx HRa
            have HFm : Hid (mvP lim L (f i) M = (M1, y, cc)) := Lib.hid (by rw [HFx.out]; exact HM1.out)
            have x0 : V.cell? ⟨nx, 0, none⟩ = some (.int .i64 lim) := HRn.out.box.cell 0
            have x1 : V.cell? ⟨nx, 1, none⟩ = some (.slice A3 M1.length c3) := HRn.out.box.cell 1
            have t0 : V.cell? ⟨bt, 0, none⟩ = some (.int .i64 lim) := HRn.out.rc.t.cell 0
            have t1 : V.cell? ⟨bt, 1, none⟩ = some (.slice A2 M.length c2) := HRn.out.rc.t.cell 1
            have t2 := HRn.out.rc.t.frozen 0
            have t3 := HRn.out.rc.t.frozen 1
            have t4 := HRn.out.rc.t.lt
            have z0 : V.cell? ⟨br, 0, none⟩ = some (.int .i64 0) := HRn.out.rc.r.cell 0
            have z1 : V.cell? ⟨br, 1, none⟩ = some (.slice none 0 0) := HRn.out.rc.r.cell 1
            have z2 := HRn.out.rc.r.frozen 0
            have z3 := HRn.out.rc.r.frozen 1
            have z4 := HRn.out.rc.r.lt
            have hcap3 := HRn.out.ref.cap
            have hfew3 := HRn.out.ref.2
            by_cases hc : cc = 0
            · subst hc
              have HC2 := Lib.hid (HRn.out.take HM1.out)
              go_upto_region 15 with fail
              obtain ⟨V2, hV2⟩ : ∃ V2, ((V.setCell ⟨bt, 0, none⟩ (.int .i64 lim)).setCell ⟨bt, 1, none⟩ (.slice A3 M1.length c3)) = V2 := ⟨_, rfl⟩
              rw [hV2] at HC2
              rw [hV2]
              clear hV2 x0 x1 t0 t1 t2 t3 t4 z0 z1 z2 z3 z4
              have hown := HC2.out.row
              have HRl := Lib.hid (show R.length + 1 ≤ maxLen ∧ (R.length + 1) * 8 ≤ 140737488355328 from by unfold maxLen; omega)
              obtain ⟨hi0, hz0, hz1, hz2⟩ := HI0.out
              go_wp2_with (first
                | (at_builtin; refine wpList_append_at rfl _ _ 22 rfl W.heap.size 3 i0 (.int .i64 0) 1 8 Tryd.underlying22 hi0 hz0 hz1 hz2 rfl (by decide) _ _ _ rfl (hown.alloc _) ⟨V2.heap.size, 0, none⟩ 1 1 [.int .i64 y] rfl rfl ?_ ?_ ?_ ?_ ?_ ?_; exact one_at _ _ _; exact one_one _; exact HRl.out.1; exact HRl.out.2; exact Nat.le_trans HC2.out.low.size ((Below.refl V2.heap.size V2).alloc (Nat.le_refl _) _).size; intro v' w5 ho hg hv; have H5 := Lib.hid ((HC2.out.below ((Below.refl _ _).alloc (Nat.le_refl _) _)).append ho hg); clear ho hg hv hown))
              have hi := HI2.out
              go_roundg (g1 - 1)
              case measure => omega
              case rel => exact ⟨i + 1, A3, c3, M1, R ++ [y], by omega, by simp, cmp_ok HCm.out HFm.out, H5.out⟩
            · have q1 : (cc == 0) = false := by simpa using hc
              have q2 : decide (cc = 0) = false := decide_eq_false hc
              have q3 : (cc != 0) = true := by simpa using hc
              go_wp2_with fail
              have hz := (cmp_bad HCm.out HFm.out hc him).symm.trans HZ.out
              simp only [Prod.mk.injEq] at hz
              obtain ⟨-, -, rfl⟩ := hz
              obtain ⟨-, he, r0, r1⟩ := HRn.out.rc.end_ (.int .i64 0) (.slice none 0 0)
              refine bodyPost_ret (v := .tuple #[.agg #[.int .i64 0, .slice none 0 0], .slice none 0 0, .int .i64 cc]) (by simp [results, Tryd.results28, go_sem, r0, r1]) rfl ?_
              exact .inr ⟨hc, rfl, he⟩
          · have hba := HC.out.a.lt
            have hbr := HC.out.r.lt
            have hbt := HC.out.t.lt
            have hox := only_two w3 wr.heap.size (.int .i64 lim) (.slice A3 M1.length c3)
            have hkx := (HX3.out.set_ 0 (.int .i64 lim)).set_ 1 (.slice A3 M1.length c3)
            have HRa : RN W lim limF L A c ba br bt A2 c2 M u11 R wr.heap.size A3 c3 M1 ((w3.setCell ⟨wr.heap.size, 0, none⟩ (.int .i64 lim)).setCell ⟨wr.heap.size, 1, none⟩ (.slice A3 M1.length c3)) :=
              ⟨(HC.out.below HB3.out).else_ HX3.out (by omega) (by omega) (by omega) HC.out.low.size hox, by simpa using hkx, HR3.out.else_ HX3.out hox⟩
            have HRn := Lib.hid HRa
            obtain ⟨V, hV⟩ : ∃ V, ((w3.setCell ⟨wr.heap.size, 0, none⟩ (.int .i64 lim)).setCell ⟨wr.heap.size, 1, none⟩ (.slice A3 M1.length c3)) = V := ⟨_, rfl⟩
            obtain ⟨nx, hnx⟩ : ∃ nx, wr.heap.size = nx := ⟨_, rfl⟩
            rw [hV, hnx] at HRn
            rw [hV, hnx]
            clear hV hnx HRa hba hbr hbt hox hkx j0 j1 j2 j3 j4
            have HFm : Hid (mvP lim L (f i) M = (M1, y, cc)) := Lib.hid (by rw [HFx.out]; exact HM1.out)
            have x0 : V.cell? ⟨nx, 0, none⟩ = some (.int .i64 lim) := HRn.out.box.cell 0
            have x1 : V.cell? ⟨nx, 1, none⟩ = some (.slice A3 M1.length c3) := HRn.out.box.cell 1
            have t0 : V.cell? ⟨bt, 0, none⟩ = some (.int .i64 lim) := HRn.out.rc.t.cell 0
            have t1 : V.cell? ⟨bt, 1, none⟩ = some (.slice A2 M.length c2) := HRn.out.rc.t.cell 1
            have t2 := HRn.out.rc.t.frozen 0
            have t3 := HRn.out.rc.t.frozen 1
            have t4 := HRn.out.rc.t.lt
            have z0 : V.cell? ⟨br, 0, none⟩ = some (.int .i64 0) := HRn.out.rc.r.cell 0
            have z1 : V.cell? ⟨br, 1, none⟩ = some (.slice none 0 0) := HRn.out.rc.r.cell 1
            have z2 := HRn.out.rc.r.frozen 0
            have z3 := HRn.out.rc.r.frozen 1
            have z4 := HRn.out.rc.r.lt
            have hcap3 := HRn.out.ref.cap
            have hfew3 := HRn.out.ref.2
            by_cases hc : cc = 0
            · subst hc
              have HC2 := Lib.hid (HRn.out.take HM1.out)
              go_upto_region 15 with fail
              obtain ⟨V2, hV2⟩ : ∃ V2, ((V.setCell ⟨bt, 0, none⟩ (.int .i64 lim)).setCell ⟨bt, 1, none⟩ (.slice A3 M1.length c3)) = V2 := ⟨_, rfl⟩
              rw [hV2] at HC2
              rw [hV2]
              clear hV2 x0 x1 t0 t1 t2 t3 t4 z0 z1 z2 z3 z4
              have hown := HC2.out.row
              have HRl := Lib.hid (show R.length + 1 ≤ maxLen ∧ (R.length + 1) * 8 ≤ 140737488355328 from by unfold maxLen; omega)
              obtain ⟨hi0, hz0, hz1, hz2⟩ := HI0.out
              go_wp2_with (first
                | (at_builtin; refine wpList_append_at rfl _ _ 22 rfl W.heap.size 3 i0 (.int .i64 0) 1 8 Tryd.underlying22 hi0 hz0 hz1 hz2 rfl (by decide) _ _ _ rfl (hown.alloc _) ⟨V2.heap.size, 0, none⟩ 1 1 [.int .i64 y] rfl rfl ?_ ?_ ?_ ?_ ?_ ?_; exact one_at _ _ _; exact one_one _; exact HRl.out.1; exact HRl.out.2; exact Nat.le_trans HC2.out.low.size ((Below.refl V2.heap.size V2).alloc (Nat.le_refl _) _).size; intro v' w5 ho hg hv; have H5 := Lib.hid ((HC2.out.below ((Below.refl _ _).alloc (Nat.le_refl _) _)).append ho hg); clear ho hg hv hown))
              have hi := HI2.out
              go_roundg (g1 - 1)
              case measure => omega
              case rel => exact ⟨i + 1, A3, c3, M1, R ++ [y], by omega, by simp, cmp_ok HCm.out HFm.out, H5.out⟩
            · have q1 : (cc == 0) = false := by simpa using hc
              have q2 : decide (cc = 0) = false := decide_eq_false hc
              have q3 : (cc != 0) = true := by simpa using hc
              go_wp2_with fail
              have hz := (cmp_bad HCm.out HFm.out hc him).symm.trans HZ.out
              simp only [Prod.mk.injEq] at hz
              obtain ⟨-, -, rfl⟩ := hz
              obtain ⟨-, he, r0, r1⟩ := HRn.out.rc.end_ (.int .i64 0) (.slice none 0 0)
              refine bodyPost_ret (v := .tuple #[.agg #[.int .i64 0, .slice none 0 0], .slice none 0 0, .int .i64 cc]) (by simp [results, Tryd.results28, go_sem, r0, r1]) rfl ?_
              exact .inr ⟨hc, rfl, he⟩
        · have hie : m = i := by have := HI2.out; omega
          subst hie
          have t0 : wr.cell? ⟨bt, 0, none⟩ = some (.int .i64 lim) := hC.t.cell 0
          have t1 : wr.cell? ⟨bt, 1, none⟩ = some (.slice A2 M.length c2) := hC.t.cell 1
          have z0 : wr.cell? ⟨br, 0, none⟩ = some (.int .i64 0) := hC.r.cell 0
          have z1 : wr.cell? ⟨br, 1, none⟩ = some (.slice none 0 0) := hC.r.cell 1
          have z2 := hC.r.frozen 0
          have z3 := hC.r.frozen 1
          have z4 := hC.r.lt
          have hz := HCm.out.symm.trans HZ.out
          simp only [Prod.mk.injEq] at hz
          obtain ⟨rfl, rfl, rfl⟩ := hz
          clear hC
          go_wp2_with fail
          obtain ⟨ho, he, r0, r1⟩ := HC.out.end_ (.int .i64 lim) (.slice A2 M.length c2)
          refine bodyPost_ret (v := .tuple #[.agg #[.int .i64 lim, .slice A2 M.length c2], u11, .int .i64 0]) (by simp [results, Tryd.results28, go_sem, r0, r1]) rfl ?_
          refine .inl ⟨rfl, A2, c2, _, rfl, HC.out.m.dst.else_ HC.out.r ho, ?_, he⟩
          have := ho.row HC.out.row (fun g e e2 => own_blk_ne HC.out.row HC.out.r (by decide) (e2 ▸ e))
          rw [hRl] at this
          exact this
end
end Go.Proofs.YtlddelnbjihhgaaDoor
