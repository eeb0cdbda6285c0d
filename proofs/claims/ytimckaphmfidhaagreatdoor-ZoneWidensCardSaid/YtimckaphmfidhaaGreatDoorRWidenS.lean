/- ZoneWidens: what stands while the document's Widen goes. -/
import Derived.Test.YtimckaphmfidhaaGreatDoorRWidenMath
import Derived.Test.YtimckaphmfidhaaGreatDoorRMeet
import Derived.Test.YtimckaphmfidhaaGreatDoorGWide
namespace Go.Proofs.YtimckaphmfidhaaGreatDoor
open Go.RowKit

/-- The boxes, the row that is built, the row of those that have grown. -/
structure DW (w : World) (m ga ca gb cb bd gd cd : Nat) (E : Mat) (v : Value) (k : Nat) (F : Nat → Bool) (W : World) : Prop where
  low : Below w.heap.size w W
  za : Duo W w.heap.size 24 (.int .i64 ((m : Int) - 1)) (.slice (some ⟨ga, 0, none⟩) (m * m) ca)
  zb : Duo W (w.heap.size + 1) 24 (.int .i64 ((m : Int) - 1)) (.slice (some ⟨gb, 0, none⟩) (m * m) cb)
  zr : Duo W (w.heap.size + 2) 24 (.int .i64 0) (.slice none 0 0)
  zo : Duo W bd 24 (.int .i64 ((m : Int) - 1)) (.slice (some ⟨gd, 0, none⟩) (m * m) cd)
  hbd : w.heap.size + 3 ≤ bd
  rowE : RZ m gd cd E 0 W
  rowF : W.ownsRow (bd + 1) 4 1 v k (boolsL k F)
  ap : v.ownBlock ≠ some gd
section
variable {w W W1 : World} {m ga ca gb cb bd gd cd k bs : Nat} {E E' : Mat} {v v1 : Value} {F : Nat → Bool} {l h : Int}
theorem DW.below (x : DW w m ga ca gb cb bd gd cd E v k F W) (hb : Below W.heap.size W W1) : DW w m ga ca gb cb bd gd cd E v k F W1 :=
  ⟨x.low.trans (hb.mono x.low.size), x.za.below hb, x.zb.below hb, x.zr.below hb, x.zo.below hb, x.hbd, x.rowE.below hb, own_kept_below x.rowF hb, x.ap⟩
theorem DW.congr (x : DW w m ga ca gb cb bd gd cd E v k F W) (he : Same m E E') : DW w m ga ca gb cb bd gd cd E' v k F W := ⟨x.low, x.za, x.zb, x.zr, x.zo, x.hbd, ⟨by rw [← flat_congr he]; exact x.rowE.row⟩, x.rowF, x.ap⟩
theorem DW.put {g5 c5 : Nat} {E5 : Mat} {base : Nat} (x : DW w m ga ca gb cb bd gd cd E v k F W) (hr : RZ m g5 c5 E5 base W) (hap : v.ownBlock ≠ some g5) : DW w m ga ca gb cb bd g5 c5 E5 v k F ((W.setCell ⟨bd, 0, none⟩ (.int .i64 ((m : Int) - 1))).setCell ⟨bd, 1, none⟩ (.slice (some ⟨g5, 0, none⟩) (m * m) c5)) := by
  have hd := x.hbd
  have hf : v.ownBlock ≠ some bd := fun e => by have := (x.rowF.lt bd e).1; omega
  exact ⟨(x.low.setCell (p := ⟨bd, 0, none⟩) (by show w.heap.size ≤ bd; omega) _).setCell (p := ⟨bd, 1, none⟩) (by show w.heap.size ≤ bd; omega) _,
    (x.za.other (by show w.heap.size ≠ bd; omega) _).other (by show w.heap.size ≠ bd; omega) _, (x.zb.other (by show w.heap.size + 1 ≠ bd; omega) _).other (by show w.heap.size + 1 ≠ bd; omega) _,
    (x.zr.other (by show w.heap.size + 2 ≠ bd; omega) _).other (by show w.heap.size + 2 ≠ bd; omega) _, (x.zo.set0 _).set1 _, hd, ⟨own_lower (row_put x.zo hr.row _ _) (Nat.zero_le _)⟩,
    (x.rowF.kept (duo_grown_setCell _ ⟨bd, 0, none⟩ _) (.inr hf)).kept (duo_grown_setCell _ ⟨bd, 1, none⟩ _) (.inr hf), hap⟩
/-- A row made later lies elsewhere. -/
theorem DW.later {g5 c5 base : Nat} {E5 : Mat} (x : DW w m ga ca gb cb bd gd cd E v k F W) (hr : RZ m g5 c5 E5 base W1) (hb : W.heap.size ≤ base) : v.ownBlock ≠ some g5 := fun e => by
  have h1 := (x.rowF.lt g5 e).2
  have h2 := (hr.row.lt g5 rfl).1
  omega
theorem DW.add {o : Obj} (x : DW w m ga ca gb cb bd gd cd E v k F W) (ho : W1.ownsRow (bd + 1) 4 1 v1 (k + 1) (boolsL k F ++ [.bool (F k)])) (hg : (W.alloc o).grownBy W1 v.ownBlock) (hw : v1.ownBlock = v.ownBlock ∨ v1.ownBlock = some (W.alloc o).heap.size) :
    DW w m ga ca gb cb bd gd cd E v1 (k + 1) F W1 := by
  have x1 := x.below (zboxed W o)
  have hr := x1.rowF.lt
  have hd := x.hbd
  refine ⟨x1.low.grown hg x1.low.size (fun q e => by have := (hr q e).1; omega), x1.za.kept hg (fun e => by have := (hr _ e.symm).1; omega), x1.zb.kept hg (fun e => by have := (hr _ e.symm).1; omega), x1.zr.kept hg (fun e => by have := (hr _ e.symm).1; omega), x1.zo.kept hg (fun e => by have := (hr _ e.symm).1; omega), hd, ⟨x1.rowE.row.kept hg (.inr (by show some gd ≠ _; exact fun e => x.ap e.symm))⟩, by rw [boolsL_succ]; exact ho, ?_⟩
  rcases hw with e | e
  · rw [e]; exact x.ap
  · rw [e]
    intro q
    have h1 := (x.rowE.row.lt gd rfl).2
    simp only [Option.some.injEq, World.size_alloc] at q
    omega
/-- With the span that is looked at. -/
structure DS (w : World) (m ga ca gb cb bd gd cd : Nat) (E : Mat) (v : Value) (k : Nat) (F : Nat → Bool) (bs : Nat) (l h : Int) (W : World) : Prop where
  dw : DW w m ga ca gb cb bd gd cd E v k F W
  sb : Duo W bs 78 (.int .i64 l) (.int .i64 h)
  far : bd + 1 ≤ bs
theorem DS.below (x : DS w m ga ca gb cb bd gd cd E v k F bs l h W) (hb : Below W.heap.size W W1) : DS w m ga ca gb cb bd gd cd E v k F bs l h W1 := ⟨x.dw.below hb, x.sb.below hb, x.far⟩
theorem DS.s (x : DS w m ga ca gb cb bd gd cd E v k F bs l h W) : (W.cell? ⟨bs, 0, none⟩ = some (.int .i64 l) ∧ W.cell? ⟨bs, 1, none⟩ = some (.int .i64 h)) ∧ W.cell? ⟨w.heap.size, 0, none⟩ = some (.int .i64 ((m : Int) - 1)) ∧ W.cell? ⟨w.heap.size, 1, none⟩ = some (.slice (some ⟨ga, 0, none⟩) (m * m) ca) := ⟨⟨x.sb.cell0, x.sb.cell1⟩, x.dw.za.cell0, x.dw.za.cell1⟩
theorem DS.add {o : Obj} (x : DS w m ga ca gb cb bd gd cd E v k F bs l h W) (ho : W1.ownsRow (bd + 1) 4 1 v1 (k + 1) (boolsL k F ++ [.bool (F k)])) (hg : (W.alloc o).grownBy W1 v.ownBlock) (hw : v1.ownBlock = v.ownBlock ∨ v1.ownBlock = some (W.alloc o).heap.size) :
    DS w m ga ca gb cb bd gd cd E v1 (k + 1) F bs l h W1 := by
  have x1 := x.below (zboxed W o)
  exact ⟨x.dw.add ho hg hw, x1.sb.kept hg (x1.sb.not_row (by decide) x1.dw.rowF), x.far⟩
theorem DW.zs (x : DW w m ga ca gb cb bd gd cd E v k F W) : (W.cell? ⟨w.heap.size, 0, none⟩ = some (.int .i64 ((m : Int) - 1)) ∧ W.cell? ⟨w.heap.size, 1, none⟩ = some (.slice (some ⟨ga, 0, none⟩) (m * m) ca)) ∧ W.cell? ⟨w.heap.size + 1, 0, none⟩ = some (.int .i64 ((m : Int) - 1)) ∧ W.cell? ⟨w.heap.size + 1, 1, none⟩ = some (.slice (some ⟨gb, 0, none⟩) (m * m) cb) := ⟨⟨x.za.cell0, x.za.cell1⟩, x.zb.cell0, x.zb.cell1⟩
/-- The span's box, made, and written. -/
theorem DW.sput (x : DW w m ga ca gb cb bd gd cd E v k F W) {p q : Value} (hs : Duo W bs 78 p q) (hf : bd + 1 ≤ bs) : DS w m ga ca gb cb bd gd cd E v k F bs l h ((W.setCell ⟨bs, 0, none⟩ (.int .i64 l)).setCell ⟨bs, 1, none⟩ (.int .i64 h)) := by
  have hd := x.hbd
  have he : (Value.slice (some ⟨gd, 0, none⟩) (m * m) cd).ownBlock ≠ some bs := (hs.not_row (by decide) x.rowE.row).symm
  have hf' : v.ownBlock ≠ some bs := (hs.not_row (by decide) x.rowF).symm
  refine ⟨⟨(x.low.setCell (p := ⟨bs, 0, none⟩) (by show w.heap.size ≤ bs; omega) _).setCell (p := ⟨bs, 1, none⟩) (by show w.heap.size ≤ bs; omega) _,
    (x.za.other (by show w.heap.size ≠ bs; omega) _).other (by show w.heap.size ≠ bs; omega) _, (x.zb.other (by show w.heap.size + 1 ≠ bs; omega) _).other (by show w.heap.size + 1 ≠ bs; omega) _,
    (x.zr.other (by show w.heap.size + 2 ≠ bs; omega) _).other (by show w.heap.size + 2 ≠ bs; omega) _, (x.zo.other (by show bd ≠ bs; omega) _).other (by show bd ≠ bs; omega) _, hd,
    ⟨(x.rowE.row.kept (duo_grown_setCell _ ⟨bs, 0, none⟩ _) (.inr he)).kept (duo_grown_setCell _ ⟨bs, 1, none⟩ _) (.inr he)⟩,
    (x.rowF.kept (duo_grown_setCell _ ⟨bs, 0, none⟩ _) (.inr hf')).kept (duo_grown_setCell _ ⟨bs, 1, none⟩ _) (.inr hf'), x.ap⟩, (hs.set0 _).set1 _, hf⟩
/-- With the row of those that have moved. -/
structure DT (w : World) (m ga ca gb cb bd gd cd : Nat) (E : Mat) (gf cf : Nat) (F : Nat → Bool) (gt ct : Nat) (T : Nat → Bool) (W : World) : Prop where
  dw : DW w m ga ca gb cb bd gd cd E (.slice (some ⟨gf, 0, none⟩) m cf) m F W
  row : W.ownsRow (bd + 1) 4 1 (.slice (some ⟨gt, 0, none⟩) m ct) m (boolsL m T)
  a1 : gt ≠ gf
  a2 : gt ≠ gd
variable {gf cf gt ct i j : Nat} {T U : Nat → Bool}
theorem DT.below (x : DT w m ga ca gb cb bd gd cd E gf cf F gt ct T W) (hb : Below W.heap.size W W1) : DT w m ga ca gb cb bd gd cd E gf cf F gt ct T W1 := ⟨x.dw.below hb, own_kept_below x.row hb, x.a1, x.a2⟩
theorem DT.congr (x : DT w m ga ca gb cb bd gd cd E gf cf F gt ct T W) (e : ∀ k, k < m → T k = U k) : DT w m ga ca gb cb bd gd cd E gf cf F gt ct U W := ⟨x.dw, by rw [← boolsL_congr e]; exact x.row, x.a1, x.a2⟩
theorem DT.congrE (x : DT w m ga ca gb cb bd gd cd E gf cf F gt ct T W) (he : Same m E E') : DT w m ga ca gb cb bd gd cd E' gf cf F gt ct T W := ⟨x.dw.congr he, x.row, x.a1, x.a2⟩
theorem DT.s (x : DT w m ga ca gb cb bd gd cd E gf cf F gt ct T W) (hi : i < m) (hj : j < m) : (W.cell? ⟨gf, i, none⟩ = some (.bool (F i)) ∧ W.cell? ⟨gf, j, none⟩ = some (.bool (F j))) ∧
    (W.cell? ⟨w.heap.size, 0, none⟩ = some (.int .i64 ((m : Int) - 1)) ∧ W.cell? ⟨w.heap.size, 1, none⟩ = some (.slice (some ⟨ga, 0, none⟩) (m * m) ca)) ∧ W.cell? ⟨w.heap.size + 1, 0, none⟩ = some (.int .i64 ((m : Int) - 1)) ∧ W.cell? ⟨w.heap.size + 1, 1, none⟩ = some (.slice (some ⟨gb, 0, none⟩) (m * m) cb) :=
  ⟨⟨(x.dw.rowF.cellAt i (by omega)).trans (boolsL_at F hi), (x.dw.rowF.cellAt j (by omega)).trans (boolsL_at F hj)⟩, ⟨x.dw.za.cell0, x.dw.za.cell1⟩, x.dw.zb.cell0, x.dw.zb.cell1⟩
theorem DT.at_ (x : DT w m ga ca gb cb bd gd cd E gf cf F gt ct T W) (hi : i < m) : W.cell? ⟨gt, i, none⟩ = some (.bool (T i)) ∧ W.frozen? ⟨gt, i, none⟩ = false ∧ gt < W.heap.size := ⟨(x.row.cellAt i (by omega)).trans (boolsL_at T hi), x.row.frozenAt _, (x.row.lt gt rfl).2⟩
theorem DT.set (x : DT w m ga ca gb cb bd gd cd E gf cf F gt ct T W) (hi : i < m) : DT w m ga ca gb cb bd gd cd E gf cf F gt ct (fun k => if k = i then true else T k) (W.setCell ⟨gt, i, none⟩ (.bool true)) := by
  have a1 := x.a1
  have a2 := x.a2
  have hd := x.dw.hbd
  have hl := (x.row.lt gt rfl).1
  obtain ⟨hs, hg⟩ := x.row.stored i (.bool true)
  rw [boolsL_set T hi] at hs
  exact ⟨⟨x.dw.low.setCell (p := ⟨gt, i, none⟩) (by show w.heap.size ≤ gt; omega) _, x.dw.za.other (by show w.heap.size ≠ gt; omega) _, x.dw.zb.other (by show w.heap.size + 1 ≠ gt; omega) _, x.dw.zr.other (by show w.heap.size + 2 ≠ gt; omega) _, x.dw.zo.other (by show bd ≠ gt; omega) _, hd,
    ⟨x.dw.rowE.row.kept (duo_grown_setCell _ ⟨gt, i, none⟩ _) (.inr (by simp [Value.ownBlock]; omega))⟩, x.dw.rowF.kept (duo_grown_setCell _ ⟨gt, i, none⟩ _) (.inr (by simp [Value.ownBlock]; omega)), x.dw.ap⟩, hs, a1, a2⟩
theorem DT.put {g5 c5 : Nat} {E5 : Mat} {base : Nat} (x : DT w m ga ca gb cb bd gd cd E gf cf F gt ct T W) (hr : RZ m g5 c5 E5 base W) (h1 : gf ≠ g5) (h2 : gt ≠ g5) : DT w m ga ca gb cb bd g5 c5 E5 gf cf F gt ct T ((W.setCell ⟨bd, 0, none⟩ (.int .i64 ((m : Int) - 1))).setCell ⟨bd, 1, none⟩ (.slice (some ⟨g5, 0, none⟩) (m * m) c5)) := by
  have hl := (x.row.lt gt rfl).1
  exact ⟨x.dw.put hr (by simp [Value.ownBlock]; omega), (x.row.kept (duo_grown_setCell _ ⟨bd, 0, none⟩ _) (.inr (by simp [Value.ownBlock]; omega))).kept (duo_grown_setCell _ ⟨bd, 1, none⟩ _) (.inr (by simp [Value.ownBlock]; omega)), x.a1, h2⟩
theorem DT.later {g5 c5 base : Nat} {E5 : Mat} (x : DT w m ga ca gb cb bd gd cd E gf cf F gt ct T W) (hr : RZ m g5 c5 E5 base W1) (hb : W.heap.size ≤ base) : gf ≠ g5 ∧ gt ≠ g5 := by
  have h1 := (x.dw.rowF.lt gf rfl).2
  have h2 := (hr.row.lt g5 rfl).1
  have h3 := (x.row.lt gt rfl).2
  omega
theorem DT.ts (x : DT w m ga ca gb cb bd gd cd E gf cf F gt ct T W) (hi : i < m) (hj : j < m) : W.cell? ⟨gt, i, none⟩ = some (.bool (T i)) ∧ W.cell? ⟨gt, j, none⟩ = some (.bool (T j)) := ⟨(x.at_ hi).1, (x.at_ hj).1⟩
end
/-- The widened bounds lie in the range. -/
theorem d_bd {v n : Nat} {C B : Mat} {f : Nat → Int} {too : Nat → Bool} (hC : Closed (v + 1) C) (hB : Closed (v + 1) B) : Bd (v + 1) (dAll too C (dSp f n C B v) v v) := by
  intro a b ha hb
  rw [dAll_at, dSp_at]
  have wa := w_facts (f := f) (n := n) hC hB (by omega) ha
  have wb := w_facts (f := f) (n := n) hC hB (by omega) hb
  have hc := hC.bd ha hb
  have ha0 := hC.bd ha (show 0 < v + 1 by omega)
  have hb0 := hC.bd (show 0 < v + 1 by omega) hb
  have f1 : -2305843009213693952 ≤ far a b ∧ far a b ≤ 2305843009213693952 := by rcases far_cases a b with q | q | q <;> omega
  have f2 : -2305843009213693952 ≤ far a 0 ∧ far a 0 ≤ 2305843009213693952 := by rcases far_cases a 0 with q | q | q <;> omega
  have f3 : -2305843009213693952 ≤ far 0 b ∧ far 0 b ≤ 2305843009213693952 := by rcases far_cases 0 b with q | q | q <;> omega
  have g : ∀ x : Int, x = min (min (far a 0) (wH f n C B a)) (C a b) ∨ x = min (min (far 0 b) (-wL f n C B b)) (C a b) ∨ x = min (far a b) (C a b) ∨ x = min (far a 0) (wH f n C B a) ∨ x = min (far 0 b) (-wL f n C B b) ∨ x = far a b → -2305843009213693952 ≤ x ∧ x ≤ 2305843009213693952 := fun x h => by
    rcases h with h | h | h | h | h | h <;> omega
  refine g _ ?_
  split <;> split <;> first | (simp; done) | (split <;> simp)
end Go.Proofs.YtimckaphmfidhaaGreatDoor
