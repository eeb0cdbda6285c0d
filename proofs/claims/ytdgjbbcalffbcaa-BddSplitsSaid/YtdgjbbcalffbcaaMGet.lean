/- The contract of Get. -/
import Derived.Test.YtdgjbbcalffbcaaMPut
import Derived.ChangeKeysEq
namespace Go.Proofs.Ytdgjbbcalffbcaa.Mem
open Go.RowKit
attribute [local go_sem ↓] Go.wp_at_zero Go.wp_at_succ

def sameK (a b c d e f : Int) : Bool := decide (a = d) && (decide (b = e) && decide (c = f))
theorem sameK_iff (x y : Ky) : sameK x.1 x.2.1 x.2.2 y.1 y.2.1 y.2.2 = decide (x = y) := by
  obtain ⟨a, b, c⟩ := x
  obtain ⟨d, e, f⟩ := y
  unfold sameK
  rw [Bool.eq_iff_iff]
  simp [Prod.ext_iff]
theorem guardK : Try.prog.eqGuardType Try.prog.depth 90 = false := by kernel_rfl
theorem cellsInt : Try.prog.cellsOf 3 = 1 := by kernel_rfl
theorem equalK (a b c d e f : Int) (w : World) : (Op.equalIn 10000 90 (.agg #[.int .i64 a, .int .i64 b, .int .i64 c]) (.agg #[.int .i64 d, .int .i64 e, .int .i64 f])).run Try.prog w = .ok (sameK a b c d e f) w := by
  have hinfo : (Try.prog.info? 3).map (fun i => (i.zero, i.size, i.bytes)) = some (some (.int .i64 0), 1, 8) := by kernel_rfl
  obtain ⟨i0, hi, hz0, hz1, hz2⟩ := info_parts hinfo
  rw [run_equalIn_array w 9999 _ _ Try.underlying90 hi]
  by_cases h : a = d <;> by_cases h' : b = e <;> by_cases h'' : c = f <;> simp [sameK, List.range_succ, Op.eqItems, part, go_sem, h, h', h'', Try.underlying3, cellsInt]
theorem eqK (a b c d e f : Int) (w : World) : (binOp .eql 90 (.agg #[.int .i64 a, .int .i64 b, .int .i64 c]) (.agg #[.int .i64 d, .int .i64 e, .int .i64 f])).run Try.prog w = .ok (.bool (sameK a b c d e f)) w := by
  rw [run_eql_struct, equalK]; rfl
theorem neK (a b c d e f : Int) (w : World) : (binOp .neq 90 (.agg #[.int .i64 a, .int .i64 b, .int .i64 c]) (.agg #[.int .i64 d, .int .i64 e, .int .i64 f])).run Try.prog w = .ok (.bool (!sameK a b c d e f)) w := by
  rw [run_neq_struct, equalK]; rfl
theorem eqgK (op : BinOp) (x y : Operand) (xs ys : Array Value) (w : World) : (eqGuard op 90 x y (.agg xs) (.agg ys)).run Try.prog w = .ok () w := run_eqGuard_agg w op 90 x y xs ys guardK

theorem keep_get {W w w1 : World} {p g n c s : Nat} {a b d : Int} {u0 u1 u2 u3 : Int} {u4 : Bool} (hb : Below w.heap.size w w1) (h : (Below W.heap.size W w ∧ W.heap.size < w.heap.size ∧ p < w.heap.size ∧ g < w.heap.size ∧ w.cell? ⟨W.heap.size, 0, none⟩ = some (.int .i64 a) ∧ w.cell? ⟨W.heap.size, 1, none⟩ = some (.int .i64 b) ∧ w.cell? ⟨W.heap.size, 2, none⟩ = some (.int .i64 d) ∧ w.cell? ⟨p, 0, none⟩ = some (.slice (some ⟨g, 0, none⟩) n c) ∧ w.cell? ⟨g, s * 5, none⟩ = some (.int .i64 u0) ∧ w.cell? ⟨g, s * 5 + 1, none⟩ = some (.int .i64 u1) ∧ w.cell? ⟨g, s * 5 + 2, none⟩ = some (.int .i64 u2) ∧ w.cell? ⟨g, s * 5 + 3, none⟩ = some (.int .i64 u3) ∧ w.cell? ⟨g, s * 5 + 4, none⟩ = some (.bool u4))) :
    (Below W.heap.size W w1 ∧ W.heap.size < w1.heap.size ∧ p < w1.heap.size ∧ g < w1.heap.size ∧ w1.cell? ⟨W.heap.size, 0, none⟩ = some (.int .i64 a) ∧ w1.cell? ⟨W.heap.size, 1, none⟩ = some (.int .i64 b) ∧ w1.cell? ⟨W.heap.size, 2, none⟩ = some (.int .i64 d) ∧ w1.cell? ⟨p, 0, none⟩ = some (.slice (some ⟨g, 0, none⟩) n c) ∧ w1.cell? ⟨g, s * 5, none⟩ = some (.int .i64 u0) ∧ w1.cell? ⟨g, s * 5 + 1, none⟩ = some (.int .i64 u1) ∧ w1.cell? ⟨g, s * 5 + 2, none⟩ = some (.int .i64 u2) ∧ w1.cell? ⟨g, s * 5 + 3, none⟩ = some (.int .i64 u3) ∧ w1.cell? ⟨g, s * 5 + 4, none⟩ = some (.bool u4)) := by
  obtain ⟨h0, h1, h2, h3, k0, k1, k2, k3, k4, k5, k6, k7, k8⟩ := h
  have hs := hb.size
  exact ⟨h0.trans (hb.mono h0.size), by omega, by omega, by omega, (hb.cell (p := ⟨W.heap.size, 0, none⟩) h1).trans k0, (hb.cell (p := ⟨W.heap.size, 1, none⟩) h1).trans k1, (hb.cell (p := ⟨W.heap.size, 2, none⟩) h1).trans k2, (hb.cell (p := ⟨p, 0, none⟩) h2).trans k3, (hb.cell (p := ⟨g, _, none⟩) h3).trans k4, (hb.cell (p := ⟨g, _, none⟩) h3).trans k5, (hb.cell (p := ⟨g, _, none⟩) h3).trans k6, (hb.cell (p := ⟨g, _, none⟩) h3).trans k7, (hb.cell (p := ⟨g, _, none⟩) h3).trans k8⟩
theorem keep_one {W w : World} {p g n c s q o : Nat} {a b d : Int} {u0 u1 u2 u3 : Int} {u4 : Bool} (v : Value) (hq : W.heap.size < q ∧ q ≠ p ∧ q ≠ g) (h : (Below W.heap.size W w ∧ W.heap.size < w.heap.size ∧ p < w.heap.size ∧ g < w.heap.size ∧ w.cell? ⟨W.heap.size, 0, none⟩ = some (.int .i64 a) ∧ w.cell? ⟨W.heap.size, 1, none⟩ = some (.int .i64 b) ∧ w.cell? ⟨W.heap.size, 2, none⟩ = some (.int .i64 d) ∧ w.cell? ⟨p, 0, none⟩ = some (.slice (some ⟨g, 0, none⟩) n c) ∧ w.cell? ⟨g, s * 5, none⟩ = some (.int .i64 u0) ∧ w.cell? ⟨g, s * 5 + 1, none⟩ = some (.int .i64 u1) ∧ w.cell? ⟨g, s * 5 + 2, none⟩ = some (.int .i64 u2) ∧ w.cell? ⟨g, s * 5 + 3, none⟩ = some (.int .i64 u3) ∧ w.cell? ⟨g, s * 5 + 4, none⟩ = some (.bool u4))) :
    (Below W.heap.size W (w.setCell ⟨q, o, none⟩ v) ∧ W.heap.size < (w.setCell ⟨q, o, none⟩ v).heap.size ∧ p < (w.setCell ⟨q, o, none⟩ v).heap.size ∧ g < (w.setCell ⟨q, o, none⟩ v).heap.size ∧ (w.setCell ⟨q, o, none⟩ v).cell? ⟨W.heap.size, 0, none⟩ = some (.int .i64 a) ∧ (w.setCell ⟨q, o, none⟩ v).cell? ⟨W.heap.size, 1, none⟩ = some (.int .i64 b) ∧ (w.setCell ⟨q, o, none⟩ v).cell? ⟨W.heap.size, 2, none⟩ = some (.int .i64 d) ∧ (w.setCell ⟨q, o, none⟩ v).cell? ⟨p, 0, none⟩ = some (.slice (some ⟨g, 0, none⟩) n c) ∧ (w.setCell ⟨q, o, none⟩ v).cell? ⟨g, s * 5, none⟩ = some (.int .i64 u0) ∧ (w.setCell ⟨q, o, none⟩ v).cell? ⟨g, s * 5 + 1, none⟩ = some (.int .i64 u1) ∧ (w.setCell ⟨q, o, none⟩ v).cell? ⟨g, s * 5 + 2, none⟩ = some (.int .i64 u2) ∧ (w.setCell ⟨q, o, none⟩ v).cell? ⟨g, s * 5 + 3, none⟩ = some (.int .i64 u3) ∧ (w.setCell ⟨q, o, none⟩ v).cell? ⟨g, s * 5 + 4, none⟩ = some (.bool u4)) := by
  obtain ⟨h0, h1, h2, h3, k0, k1, k2, k3, k4, k5, k6, k7, k8⟩ := h
  obtain ⟨q1, q2, q3⟩ := hq
  refine ⟨h0.setCell (by show W.heap.size ≤ q; omega) v, by simpa using h1, by simpa using h2, by simpa using h3, ?_, ?_, ?_, ?_, ?_, ?_, ?_, ?_, ?_⟩ <;>
    (rw [World.cell?_setCell_other _ _ _ _ (by intro e; injection e with e; omega)]; assumption)
theorem keep_fill {W w : World} {p g n c s q : Nat} {a b d : Int} {u0 u1 u2 u3 : Int} {u4 : Bool} (hq : W.heap.size < q ∧ q ≠ p ∧ q ≠ g) (h : (Below W.heap.size W w ∧ W.heap.size < w.heap.size ∧ p < w.heap.size ∧ g < w.heap.size ∧ w.cell? ⟨W.heap.size, 0, none⟩ = some (.int .i64 a) ∧ w.cell? ⟨W.heap.size, 1, none⟩ = some (.int .i64 b) ∧ w.cell? ⟨W.heap.size, 2, none⟩ = some (.int .i64 d) ∧ w.cell? ⟨p, 0, none⟩ = some (.slice (some ⟨g, 0, none⟩) n c) ∧ w.cell? ⟨g, s * 5, none⟩ = some (.int .i64 u0) ∧ w.cell? ⟨g, s * 5 + 1, none⟩ = some (.int .i64 u1) ∧ w.cell? ⟨g, s * 5 + 2, none⟩ = some (.int .i64 u2) ∧ w.cell? ⟨g, s * 5 + 3, none⟩ = some (.int .i64 u3) ∧ w.cell? ⟨g, s * 5 + 4, none⟩ = some (.bool u4))) :
    (Below W.heap.size W (((((w.setCell ⟨q, 0, none⟩ (.int .i64 u0)).setCell ⟨q, 1, none⟩ (.int .i64 u1)).setCell ⟨q, 2, none⟩ (.int .i64 u2)).setCell ⟨q, 3, none⟩ (.int .i64 u3)).setCell ⟨q, 4, none⟩ (.bool u4)) ∧ W.heap.size < (((((w.setCell ⟨q, 0, none⟩ (.int .i64 u0)).setCell ⟨q, 1, none⟩ (.int .i64 u1)).setCell ⟨q, 2, none⟩ (.int .i64 u2)).setCell ⟨q, 3, none⟩ (.int .i64 u3)).setCell ⟨q, 4, none⟩ (.bool u4)).heap.size ∧ p < (((((w.setCell ⟨q, 0, none⟩ (.int .i64 u0)).setCell ⟨q, 1, none⟩ (.int .i64 u1)).setCell ⟨q, 2, none⟩ (.int .i64 u2)).setCell ⟨q, 3, none⟩ (.int .i64 u3)).setCell ⟨q, 4, none⟩ (.bool u4)).heap.size ∧ g < (((((w.setCell ⟨q, 0, none⟩ (.int .i64 u0)).setCell ⟨q, 1, none⟩ (.int .i64 u1)).setCell ⟨q, 2, none⟩ (.int .i64 u2)).setCell ⟨q, 3, none⟩ (.int .i64 u3)).setCell ⟨q, 4, none⟩ (.bool u4)).heap.size ∧ (((((w.setCell ⟨q, 0, none⟩ (.int .i64 u0)).setCell ⟨q, 1, none⟩ (.int .i64 u1)).setCell ⟨q, 2, none⟩ (.int .i64 u2)).setCell ⟨q, 3, none⟩ (.int .i64 u3)).setCell ⟨q, 4, none⟩ (.bool u4)).cell? ⟨W.heap.size, 0, none⟩ = some (.int .i64 a) ∧ (((((w.setCell ⟨q, 0, none⟩ (.int .i64 u0)).setCell ⟨q, 1, none⟩ (.int .i64 u1)).setCell ⟨q, 2, none⟩ (.int .i64 u2)).setCell ⟨q, 3, none⟩ (.int .i64 u3)).setCell ⟨q, 4, none⟩ (.bool u4)).cell? ⟨W.heap.size, 1, none⟩ = some (.int .i64 b) ∧ (((((w.setCell ⟨q, 0, none⟩ (.int .i64 u0)).setCell ⟨q, 1, none⟩ (.int .i64 u1)).setCell ⟨q, 2, none⟩ (.int .i64 u2)).setCell ⟨q, 3, none⟩ (.int .i64 u3)).setCell ⟨q, 4, none⟩ (.bool u4)).cell? ⟨W.heap.size, 2, none⟩ = some (.int .i64 d) ∧ (((((w.setCell ⟨q, 0, none⟩ (.int .i64 u0)).setCell ⟨q, 1, none⟩ (.int .i64 u1)).setCell ⟨q, 2, none⟩ (.int .i64 u2)).setCell ⟨q, 3, none⟩ (.int .i64 u3)).setCell ⟨q, 4, none⟩ (.bool u4)).cell? ⟨p, 0, none⟩ = some (.slice (some ⟨g, 0, none⟩) n c) ∧ (((((w.setCell ⟨q, 0, none⟩ (.int .i64 u0)).setCell ⟨q, 1, none⟩ (.int .i64 u1)).setCell ⟨q, 2, none⟩ (.int .i64 u2)).setCell ⟨q, 3, none⟩ (.int .i64 u3)).setCell ⟨q, 4, none⟩ (.bool u4)).cell? ⟨g, s * 5, none⟩ = some (.int .i64 u0) ∧ (((((w.setCell ⟨q, 0, none⟩ (.int .i64 u0)).setCell ⟨q, 1, none⟩ (.int .i64 u1)).setCell ⟨q, 2, none⟩ (.int .i64 u2)).setCell ⟨q, 3, none⟩ (.int .i64 u3)).setCell ⟨q, 4, none⟩ (.bool u4)).cell? ⟨g, s * 5 + 1, none⟩ = some (.int .i64 u1) ∧ (((((w.setCell ⟨q, 0, none⟩ (.int .i64 u0)).setCell ⟨q, 1, none⟩ (.int .i64 u1)).setCell ⟨q, 2, none⟩ (.int .i64 u2)).setCell ⟨q, 3, none⟩ (.int .i64 u3)).setCell ⟨q, 4, none⟩ (.bool u4)).cell? ⟨g, s * 5 + 2, none⟩ = some (.int .i64 u2) ∧ (((((w.setCell ⟨q, 0, none⟩ (.int .i64 u0)).setCell ⟨q, 1, none⟩ (.int .i64 u1)).setCell ⟨q, 2, none⟩ (.int .i64 u2)).setCell ⟨q, 3, none⟩ (.int .i64 u3)).setCell ⟨q, 4, none⟩ (.bool u4)).cell? ⟨g, s * 5 + 3, none⟩ = some (.int .i64 u3) ∧ (((((w.setCell ⟨q, 0, none⟩ (.int .i64 u0)).setCell ⟨q, 1, none⟩ (.int .i64 u1)).setCell ⟨q, 2, none⟩ (.int .i64 u2)).setCell ⟨q, 3, none⟩ (.int .i64 u3)).setCell ⟨q, 4, none⟩ (.bool u4)).cell? ⟨g, s * 5 + 4, none⟩ = some (.bool u4)) :=
  keep_one _ hq (keep_one _ hq (keep_one _ hq (keep_one _ hq (keep_one _ hq h))))
section
variable {W : World} {p g n c : Nat} {T : Nat → Pl}
def RetGet (n : Nat) (T : Nat → Pl) (k : Ky) (w : World) (e : Ending) (w' : World) : Prop :=
  e = .returned (.tuple #[.int .i64 (getP n T k).1, .bool (getP n T k).2]) ∧ Below w.heap.size w w'
set_option maxRecDepth 100000 in
set_option maxHeartbeats 1600000 in
theorem get_none {a b d : Int} (h : MemoR W p g n c T) (ht : T (slotP n (a, b, d)) = none) :
    Calls Try.prog 57 #[.pointer (some ⟨p, 0, none⟩), .agg #[.int .i64 a, .int .i64 b, .int .i64 d]] W (RetGet n T (a, b, d) W) := by
  have hG : getP n T (a, b, d) = (0, false) := by unfold getP; rw [ht]; rfl
  obtain ⟨s, hs⟩ : ∃ s, s = slotP n (a, b, d) := ⟨_, rfl⟩
  rw [← hs] at ht
  have hsn : s < n := by rw [hs]; exact (slotP_is h.room.1 _).2
  have hroom := h.room
  obtain ⟨u0, u1, u2, u3, ⟨y0, y1, y2, y3, y4⟩, -, z0, z1, z2, z3, z4⟩ := h.five hsn
  rw [ht] at y4
  replace y4 : W.cell? ⟨g, s * 5 + 4, none⟩ = some (.bool false) := y4
  have HS : Hid (∀ w1, (Below W.heap.size W w1 ∧ W.heap.size < w1.heap.size ∧ p < w1.heap.size ∧ g < w1.heap.size ∧ w1.cell? ⟨W.heap.size, 0, none⟩ = some (.int .i64 a) ∧ w1.cell? ⟨W.heap.size, 1, none⟩ = some (.int .i64 b) ∧ w1.cell? ⟨W.heap.size, 2, none⟩ = some (.int .i64 d) ∧ w1.cell? ⟨p, 0, none⟩ = some (.slice (some ⟨g, 0, none⟩) n c) ∧ w1.cell? ⟨g, s * 5, none⟩ = some (.int .i64 u0) ∧ w1.cell? ⟨g, s * 5 + 1, none⟩ = some (.int .i64 u1) ∧ w1.cell? ⟨g, s * 5 + 2, none⟩ = some (.int .i64 u2) ∧ w1.cell? ⟨g, s * 5 + 3, none⟩ = some (.int .i64 u3) ∧ w1.cell? ⟨g, s * 5 + 4, none⟩ = some (.bool false)) → Calls Try.prog 72 #[.pointer (some ⟨p, 0, none⟩), .agg #[.int .i64 a, .int .i64 b, .int .i64 d]] w1 (RetB (.int .i64 (s : Nat)) w1)) :=
    Lib.hid fun w1 h1 => by rw [hs]; exact slot_any a b d h1.2.2.2.2.2.2.2.1 h.room.1 h.room.2
  have hb0 := boxed_below W a b d
  have HB := Lib.hid (boxed_blk W a b d)
  have K0 : Hid (Below W.heap.size W (boxed W a b d).drew ∧ W.heap.size < (boxed W a b d).drew.heap.size ∧ p < (boxed W a b d).drew.heap.size ∧ g < (boxed W a b d).drew.heap.size ∧ (boxed W a b d).drew.cell? ⟨W.heap.size, 0, none⟩ = some (.int .i64 a) ∧ (boxed W a b d).drew.cell? ⟨W.heap.size, 1, none⟩ = some (.int .i64 b) ∧ (boxed W a b d).drew.cell? ⟨W.heap.size, 2, none⟩ = some (.int .i64 d) ∧ (boxed W a b d).drew.cell? ⟨p, 0, none⟩ = some (.slice (some ⟨g, 0, none⟩) n c) ∧ (boxed W a b d).drew.cell? ⟨g, s * 5, none⟩ = some (.int .i64 u0) ∧ (boxed W a b d).drew.cell? ⟨g, s * 5 + 1, none⟩ = some (.int .i64 u1) ∧ (boxed W a b d).drew.cell? ⟨g, s * 5 + 2, none⟩ = some (.int .i64 u2) ∧ (boxed W a b d).drew.cell? ⟨g, s * 5 + 3, none⟩ = some (.int .i64 u3) ∧ (boxed W a b d).drew.cell? ⟨g, s * 5 + 4, none⟩ = some (.bool false)) :=
    Lib.hid ⟨hb0.drew, HB.out.lt, Nat.lt_of_lt_of_le h.blk.lt hb0.size, Nat.lt_of_lt_of_le h.glt hb0.size, HB.out.cell 0, HB.out.cell 1, HB.out.cell 2, (hb0.cell (p := ⟨p, 0, none⟩) h.blk.lt).trans h.c0, (hb0.cell (p := ⟨g, _, none⟩) h.glt).trans y0, (hb0.cell (p := ⟨g, _, none⟩) h.glt).trans y1, (hb0.cell (p := ⟨g, _, none⟩) h.glt).trans y2, (hb0.cell (p := ⟨g, _, none⟩) h.glt).trans y3, (hb0.cell (p := ⟨g, _, none⟩) h.glt).trans y4⟩
  unfold boxed at K0
  have K1 : Hid (Below W.heap.size W (((W.alloc (.cells #[.int .i64 a, .int .i64 b, .int .i64 d] 90)).alloc (.cells #[.int .i64 0, .int .i64 0, .int .i64 0, .int .i64 0, .bool false] 115)).drew) ∧ W.heap.size < ((W.alloc (.cells #[.int .i64 a, .int .i64 b, .int .i64 d] 90)).alloc (.cells #[.int .i64 0, .int .i64 0, .int .i64 0, .int .i64 0, .bool false] 115)).drew.heap.size ∧ p < ((W.alloc (.cells #[.int .i64 a, .int .i64 b, .int .i64 d] 90)).alloc (.cells #[.int .i64 0, .int .i64 0, .int .i64 0, .int .i64 0, .bool false] 115)).drew.heap.size ∧ g < ((W.alloc (.cells #[.int .i64 a, .int .i64 b, .int .i64 d] 90)).alloc (.cells #[.int .i64 0, .int .i64 0, .int .i64 0, .int .i64 0, .bool false] 115)).drew.heap.size ∧ ((W.alloc (.cells #[.int .i64 a, .int .i64 b, .int .i64 d] 90)).alloc (.cells #[.int .i64 0, .int .i64 0, .int .i64 0, .int .i64 0, .bool false] 115)).drew.cell? ⟨W.heap.size, 0, none⟩ = some (.int .i64 a) ∧ ((W.alloc (.cells #[.int .i64 a, .int .i64 b, .int .i64 d] 90)).alloc (.cells #[.int .i64 0, .int .i64 0, .int .i64 0, .int .i64 0, .bool false] 115)).drew.cell? ⟨W.heap.size, 1, none⟩ = some (.int .i64 b) ∧ ((W.alloc (.cells #[.int .i64 a, .int .i64 b, .int .i64 d] 90)).alloc (.cells #[.int .i64 0, .int .i64 0, .int .i64 0, .int .i64 0, .bool false] 115)).drew.cell? ⟨W.heap.size, 2, none⟩ = some (.int .i64 d) ∧ ((W.alloc (.cells #[.int .i64 a, .int .i64 b, .int .i64 d] 90)).alloc (.cells #[.int .i64 0, .int .i64 0, .int .i64 0, .int .i64 0, .bool false] 115)).drew.cell? ⟨p, 0, none⟩ = some (.slice (some ⟨g, 0, none⟩) n c) ∧ ((W.alloc (.cells #[.int .i64 a, .int .i64 b, .int .i64 d] 90)).alloc (.cells #[.int .i64 0, .int .i64 0, .int .i64 0, .int .i64 0, .bool false] 115)).drew.cell? ⟨g, s * 5, none⟩ = some (.int .i64 u0) ∧ ((W.alloc (.cells #[.int .i64 a, .int .i64 b, .int .i64 d] 90)).alloc (.cells #[.int .i64 0, .int .i64 0, .int .i64 0, .int .i64 0, .bool false] 115)).drew.cell? ⟨g, s * 5 + 1, none⟩ = some (.int .i64 u1) ∧ ((W.alloc (.cells #[.int .i64 a, .int .i64 b, .int .i64 d] 90)).alloc (.cells #[.int .i64 0, .int .i64 0, .int .i64 0, .int .i64 0, .bool false] 115)).drew.cell? ⟨g, s * 5 + 2, none⟩ = some (.int .i64 u2) ∧ ((W.alloc (.cells #[.int .i64 a, .int .i64 b, .int .i64 d] 90)).alloc (.cells #[.int .i64 0, .int .i64 0, .int .i64 0, .int .i64 0, .bool false] 115)).drew.cell? ⟨g, s * 5 + 3, none⟩ = some (.int .i64 u3) ∧ ((W.alloc (.cells #[.int .i64 a, .int .i64 b, .int .i64 d] 90)).alloc (.cells #[.int .i64 0, .int .i64 0, .int .i64 0, .int .i64 0, .bool false] 115)).drew.cell? ⟨g, s * 5 + 4, none⟩ = some (.bool false)) :=
    Lib.hid (keep_get (show Below (W.alloc (.cells #[.int .i64 a, .int .i64 b, .int .i64 d] 90)).drew.heap.size (W.alloc (.cells #[.int .i64 a, .int .i64 b, .int .i64 d] 90)).drew (((W.alloc (.cells #[.int .i64 a, .int .i64 b, .int .i64 d] 90)).alloc (.cells #[.int .i64 0, .int .i64 0, .int .i64 0, .int .i64 0, .bool false] 115)).drew) from (Below.refl _ _).alloc (Nat.le_refl _) (.cells #[.int .i64 0, .int .i64 0, .int .i64 0, .int .i64 0, .bool false] 115)) K0.out)
  have BZ : Hid (Blk (((W.alloc (.cells #[.int .i64 a, .int .i64 b, .int .i64 d] 90)).alloc (.cells #[.int .i64 0, .int .i64 0, .int .i64 0, .int .i64 0, .bool false] 115)).drew) (W.heap.size + 1) 115 #[.int .i64 0, .int .i64 0, .int .i64 0, .int .i64 0, .bool false]) := by
    have := Blk.new (W.alloc (.cells #[.int .i64 a, .int .i64 b, .int .i64 d] 90)) 115 #[.int .i64 0, .int .i64 0, .int .i64 0, .int .i64 0, .bool false]
    rw [World.size_alloc] at this
    exact Lib.hid this
  have hq : W.heap.size < W.heap.size + 1 ∧ W.heap.size + 1 ≠ p ∧ W.heap.size + 1 ≠ g := by have := h.blk.lt; have := h.glt; omega
  have le1 : W.heap.size ≤ W.heap.size + 1 := Nat.le_succ _
  have HL1 := Lib.hid le1
  clear le1
  have HSl := Lib.hid hs
  have HG := Lib.hid hG
  have hplt := h.blk.lt
  have hglt := h.glt
  have hgp := h.gp
  clear h hs hb0 hG ht y0 y1 y2 y3 y4 z0 z1 z2 z3 z4
  go_enter Try.func57, Try.ntmps57
  go_wp2_with fail
  go_region_held3 (fun w' => (Below W.heap.size W w' ∧ W.heap.size < w'.heap.size ∧ p < w'.heap.size ∧ g < w'.heap.size ∧ w'.cell? ⟨W.heap.size, 0, none⟩ = some (.int .i64 a) ∧ w'.cell? ⟨W.heap.size, 1, none⟩ = some (.int .i64 b) ∧ w'.cell? ⟨W.heap.size, 2, none⟩ = some (.int .i64 d) ∧ w'.cell? ⟨p, 0, none⟩ = some (.slice (some ⟨g, 0, none⟩) n c) ∧ w'.cell? ⟨g, s * 5, none⟩ = some (.int .i64 u0) ∧ w'.cell? ⟨g, s * 5 + 1, none⟩ = some (.int .i64 u1) ∧ w'.cell? ⟨g, s * 5 + 2, none⟩ = some (.int .i64 u2) ∧ w'.cell? ⟨g, s * 5 + 3, none⟩ = some (.int .i64 u3) ∧ w'.cell? ⟨g, s * 5 + 4, none⟩ = some (.bool false)))
      (first | (with_reducible exact K0.out) | (with_reducible exact K1.out) | (with_reducible exact keep_get hb1 K0.out) | (with_reducible exact keep_get hb1 K1.out) | (with_reducible exact keep_get ((Below.refl _ _).alloc (Nat.le_refl _) _) (keep_get hb1 K0.out)) | (with_reducible exact keep_fill hq (keep_get hb1 K1.out)))
      (first
        | (go_at_call 72; ((with_reducible refine (HS.out _ K0.out).mono ?_); rintro e w1 ⟨rfl, hb1⟩))
        | (go_at_call 72; ((with_reducible refine (HS.out _ K1.out).mono ?_); rintro e w1 ⟨rfl, hb1⟩); have hz := BZ.out.below hb1 BZ.out.lt; have q0 : w1.cell? ⟨W.heap.size + 1, 0, none⟩ = some (.int .i64 0) := hz.cell 0; have q1 : w1.cell? ⟨W.heap.size + 1, 1, none⟩ = some (.int .i64 0) := hz.cell 1; have q2 : w1.cell? ⟨W.heap.size + 1, 2, none⟩ = some (.int .i64 0) := hz.cell 2; have q3 : w1.cell? ⟨W.heap.size + 1, 3, none⟩ = some (.int .i64 0) := hz.cell 3; have q4 : w1.cell? ⟨W.heap.size + 1, 4, none⟩ = some (.bool false) := hz.cell 4; have r0 := hz.frozen 0; have r1 := hz.frozen 1; have r2 := hz.frozen 2; have r3 := hz.frozen 3; have r4 := hz.frozen 4; have HZ := Lib.hid hz; clear hz))
  · have HE := Lib.hid (K0.out.1.trans (hb1.mono K0.out.1.size))
    clear hb1
    go_wp2_with fail
    go_ret2
    unfold RetGet
    rw [HG.out]
    exact ⟨rfl, HE.out.alloc HE.out.size _⟩
  · have HE := Lib.hid (K1.out.1.trans (hb1.mono K1.out.1.size))
    clear hb1
    go_wp2_with fail
    go_ret2
    unfold RetGet
    rw [HG.out]
    exact ⟨rfl, (((((HE.out.setCell HL1.out _).setCell HL1.out _).setCell HL1.out _).setCell HL1.out _).setCell HL1.out _)⟩
attribute [local go_sem ↓] neK eqK eqgK in
set_option maxRecDepth 100000 in
set_option maxHeartbeats 1600000 in
theorem get_some {a b d : Int} (h : MemoR W p g n c T) {x : Ky × Int} (ht : T (slotP n (a, b, d)) = some x) :
    Calls Try.prog 57 #[.pointer (some ⟨p, 0, none⟩), .agg #[.int .i64 a, .int .i64 b, .int .i64 d]] W (RetGet n T (a, b, d) W) := by
  have hG : getP n T (a, b, d) = atP (some x) (a, b, d) := by unfold getP; rw [ht]
  obtain ⟨s, hs⟩ : ∃ s, s = slotP n (a, b, d) := ⟨_, rfl⟩
  rw [← hs] at ht
  have hsn : s < n := by rw [hs]; exact (slotP_is h.room.1 _).2
  have hroom := h.room
  obtain ⟨u0, u1, u2, u3, ⟨y0, y1, y2, y3, y4⟩, hx, z0, z1, z2, z3, z4⟩ := h.five hsn
  obtain rfl := hx x ht
  clear hx
  rw [ht] at y4
  replace y4 : W.cell? ⟨g, s * 5 + 4, none⟩ = some (.bool true) := y4
  have HS : Hid (∀ w1, (Below W.heap.size W w1 ∧ W.heap.size < w1.heap.size ∧ p < w1.heap.size ∧ g < w1.heap.size ∧ w1.cell? ⟨W.heap.size, 0, none⟩ = some (.int .i64 a) ∧ w1.cell? ⟨W.heap.size, 1, none⟩ = some (.int .i64 b) ∧ w1.cell? ⟨W.heap.size, 2, none⟩ = some (.int .i64 d) ∧ w1.cell? ⟨p, 0, none⟩ = some (.slice (some ⟨g, 0, none⟩) n c) ∧ w1.cell? ⟨g, s * 5, none⟩ = some (.int .i64 u0) ∧ w1.cell? ⟨g, s * 5 + 1, none⟩ = some (.int .i64 u1) ∧ w1.cell? ⟨g, s * 5 + 2, none⟩ = some (.int .i64 u2) ∧ w1.cell? ⟨g, s * 5 + 3, none⟩ = some (.int .i64 u3) ∧ w1.cell? ⟨g, s * 5 + 4, none⟩ = some (.bool true)) → Calls Try.prog 72 #[.pointer (some ⟨p, 0, none⟩), .agg #[.int .i64 a, .int .i64 b, .int .i64 d]] w1 (RetB (.int .i64 (s : Nat)) w1)) :=
    Lib.hid fun w1 h1 => by rw [hs]; exact slot_any a b d h1.2.2.2.2.2.2.2.1 h.room.1 h.room.2
  have hb0 := boxed_below W a b d
  have HB := Lib.hid (boxed_blk W a b d)
  have K0 : Hid (Below W.heap.size W (boxed W a b d).drew ∧ W.heap.size < (boxed W a b d).drew.heap.size ∧ p < (boxed W a b d).drew.heap.size ∧ g < (boxed W a b d).drew.heap.size ∧ (boxed W a b d).drew.cell? ⟨W.heap.size, 0, none⟩ = some (.int .i64 a) ∧ (boxed W a b d).drew.cell? ⟨W.heap.size, 1, none⟩ = some (.int .i64 b) ∧ (boxed W a b d).drew.cell? ⟨W.heap.size, 2, none⟩ = some (.int .i64 d) ∧ (boxed W a b d).drew.cell? ⟨p, 0, none⟩ = some (.slice (some ⟨g, 0, none⟩) n c) ∧ (boxed W a b d).drew.cell? ⟨g, s * 5, none⟩ = some (.int .i64 u0) ∧ (boxed W a b d).drew.cell? ⟨g, s * 5 + 1, none⟩ = some (.int .i64 u1) ∧ (boxed W a b d).drew.cell? ⟨g, s * 5 + 2, none⟩ = some (.int .i64 u2) ∧ (boxed W a b d).drew.cell? ⟨g, s * 5 + 3, none⟩ = some (.int .i64 u3) ∧ (boxed W a b d).drew.cell? ⟨g, s * 5 + 4, none⟩ = some (.bool true)) :=
    Lib.hid ⟨hb0.drew, HB.out.lt, Nat.lt_of_lt_of_le h.blk.lt hb0.size, Nat.lt_of_lt_of_le h.glt hb0.size, HB.out.cell 0, HB.out.cell 1, HB.out.cell 2, (hb0.cell (p := ⟨p, 0, none⟩) h.blk.lt).trans h.c0, (hb0.cell (p := ⟨g, _, none⟩) h.glt).trans y0, (hb0.cell (p := ⟨g, _, none⟩) h.glt).trans y1, (hb0.cell (p := ⟨g, _, none⟩) h.glt).trans y2, (hb0.cell (p := ⟨g, _, none⟩) h.glt).trans y3, (hb0.cell (p := ⟨g, _, none⟩) h.glt).trans y4⟩
  unfold boxed at K0
  have K1 : Hid (Below W.heap.size W (((W.alloc (.cells #[.int .i64 a, .int .i64 b, .int .i64 d] 90)).alloc (.cells #[.int .i64 0, .int .i64 0, .int .i64 0, .int .i64 0, .bool false] 115)).drew) ∧ W.heap.size < ((W.alloc (.cells #[.int .i64 a, .int .i64 b, .int .i64 d] 90)).alloc (.cells #[.int .i64 0, .int .i64 0, .int .i64 0, .int .i64 0, .bool false] 115)).drew.heap.size ∧ p < ((W.alloc (.cells #[.int .i64 a, .int .i64 b, .int .i64 d] 90)).alloc (.cells #[.int .i64 0, .int .i64 0, .int .i64 0, .int .i64 0, .bool false] 115)).drew.heap.size ∧ g < ((W.alloc (.cells #[.int .i64 a, .int .i64 b, .int .i64 d] 90)).alloc (.cells #[.int .i64 0, .int .i64 0, .int .i64 0, .int .i64 0, .bool false] 115)).drew.heap.size ∧ ((W.alloc (.cells #[.int .i64 a, .int .i64 b, .int .i64 d] 90)).alloc (.cells #[.int .i64 0, .int .i64 0, .int .i64 0, .int .i64 0, .bool false] 115)).drew.cell? ⟨W.heap.size, 0, none⟩ = some (.int .i64 a) ∧ ((W.alloc (.cells #[.int .i64 a, .int .i64 b, .int .i64 d] 90)).alloc (.cells #[.int .i64 0, .int .i64 0, .int .i64 0, .int .i64 0, .bool false] 115)).drew.cell? ⟨W.heap.size, 1, none⟩ = some (.int .i64 b) ∧ ((W.alloc (.cells #[.int .i64 a, .int .i64 b, .int .i64 d] 90)).alloc (.cells #[.int .i64 0, .int .i64 0, .int .i64 0, .int .i64 0, .bool false] 115)).drew.cell? ⟨W.heap.size, 2, none⟩ = some (.int .i64 d) ∧ ((W.alloc (.cells #[.int .i64 a, .int .i64 b, .int .i64 d] 90)).alloc (.cells #[.int .i64 0, .int .i64 0, .int .i64 0, .int .i64 0, .bool false] 115)).drew.cell? ⟨p, 0, none⟩ = some (.slice (some ⟨g, 0, none⟩) n c) ∧ ((W.alloc (.cells #[.int .i64 a, .int .i64 b, .int .i64 d] 90)).alloc (.cells #[.int .i64 0, .int .i64 0, .int .i64 0, .int .i64 0, .bool false] 115)).drew.cell? ⟨g, s * 5, none⟩ = some (.int .i64 u0) ∧ ((W.alloc (.cells #[.int .i64 a, .int .i64 b, .int .i64 d] 90)).alloc (.cells #[.int .i64 0, .int .i64 0, .int .i64 0, .int .i64 0, .bool false] 115)).drew.cell? ⟨g, s * 5 + 1, none⟩ = some (.int .i64 u1) ∧ ((W.alloc (.cells #[.int .i64 a, .int .i64 b, .int .i64 d] 90)).alloc (.cells #[.int .i64 0, .int .i64 0, .int .i64 0, .int .i64 0, .bool false] 115)).drew.cell? ⟨g, s * 5 + 2, none⟩ = some (.int .i64 u2) ∧ ((W.alloc (.cells #[.int .i64 a, .int .i64 b, .int .i64 d] 90)).alloc (.cells #[.int .i64 0, .int .i64 0, .int .i64 0, .int .i64 0, .bool false] 115)).drew.cell? ⟨g, s * 5 + 3, none⟩ = some (.int .i64 u3) ∧ ((W.alloc (.cells #[.int .i64 a, .int .i64 b, .int .i64 d] 90)).alloc (.cells #[.int .i64 0, .int .i64 0, .int .i64 0, .int .i64 0, .bool false] 115)).drew.cell? ⟨g, s * 5 + 4, none⟩ = some (.bool true)) :=
    Lib.hid (keep_get (show Below (W.alloc (.cells #[.int .i64 a, .int .i64 b, .int .i64 d] 90)).drew.heap.size (W.alloc (.cells #[.int .i64 a, .int .i64 b, .int .i64 d] 90)).drew (((W.alloc (.cells #[.int .i64 a, .int .i64 b, .int .i64 d] 90)).alloc (.cells #[.int .i64 0, .int .i64 0, .int .i64 0, .int .i64 0, .bool false] 115)).drew) from (Below.refl _ _).alloc (Nat.le_refl _) (.cells #[.int .i64 0, .int .i64 0, .int .i64 0, .int .i64 0, .bool false] 115)) K0.out)
  have BZ : Hid (Blk (((W.alloc (.cells #[.int .i64 a, .int .i64 b, .int .i64 d] 90)).alloc (.cells #[.int .i64 0, .int .i64 0, .int .i64 0, .int .i64 0, .bool false] 115)).drew) (W.heap.size + 1) 115 #[.int .i64 0, .int .i64 0, .int .i64 0, .int .i64 0, .bool false]) := by
    have := Blk.new (W.alloc (.cells #[.int .i64 a, .int .i64 b, .int .i64 d] 90)) 115 #[.int .i64 0, .int .i64 0, .int .i64 0, .int .i64 0, .bool false]
    rw [World.size_alloc] at this
    exact Lib.hid this
  have hq : W.heap.size < W.heap.size + 1 ∧ W.heap.size + 1 ≠ p ∧ W.heap.size + 1 ≠ g := by have := h.blk.lt; have := h.glt; omega
  have le1 : W.heap.size ≤ W.heap.size + 1 := Nat.le_succ _
  have HL1 := Lib.hid le1
  clear le1
  have HSl := Lib.hid hs
  have HG := Lib.hid hG
  have hplt := h.blk.lt
  have hglt := h.glt
  have hgp := h.gp
  clear h hs hb0 hG ht y0 y1 y2 y3 y4 z0 z1 z2 z3 z4
  go_enter Try.func57, Try.ntmps57
  go_wp2_with fail
  go_region_held3 (fun w' => (Below W.heap.size W w' ∧ W.heap.size < w'.heap.size ∧ p < w'.heap.size ∧ g < w'.heap.size ∧ w'.cell? ⟨W.heap.size, 0, none⟩ = some (.int .i64 a) ∧ w'.cell? ⟨W.heap.size, 1, none⟩ = some (.int .i64 b) ∧ w'.cell? ⟨W.heap.size, 2, none⟩ = some (.int .i64 d) ∧ w'.cell? ⟨p, 0, none⟩ = some (.slice (some ⟨g, 0, none⟩) n c) ∧ w'.cell? ⟨g, s * 5, none⟩ = some (.int .i64 u0) ∧ w'.cell? ⟨g, s * 5 + 1, none⟩ = some (.int .i64 u1) ∧ w'.cell? ⟨g, s * 5 + 2, none⟩ = some (.int .i64 u2) ∧ w'.cell? ⟨g, s * 5 + 3, none⟩ = some (.int .i64 u3) ∧ w'.cell? ⟨g, s * 5 + 4, none⟩ = some (.bool true)))
      (first | (with_reducible exact K0.out) | (with_reducible exact K1.out) | (with_reducible exact keep_get hb1 K0.out) | (with_reducible exact keep_get hb1 K1.out) | (with_reducible exact keep_get ((Below.refl _ _).alloc (Nat.le_refl _) _) (keep_get hb1 K0.out)) | (with_reducible exact keep_fill hq (keep_get hb1 K1.out)))
      (first
        | (go_at_call 72; ((with_reducible refine (HS.out _ K0.out).mono ?_); rintro e w1 ⟨rfl, hb1⟩))
        | (go_at_call 72; ((with_reducible refine (HS.out _ K1.out).mono ?_); rintro e w1 ⟨rfl, hb1⟩); have hz := BZ.out.below hb1 BZ.out.lt; have q0 : w1.cell? ⟨W.heap.size + 1, 0, none⟩ = some (.int .i64 0) := hz.cell 0; have q1 : w1.cell? ⟨W.heap.size + 1, 1, none⟩ = some (.int .i64 0) := hz.cell 1; have q2 : w1.cell? ⟨W.heap.size + 1, 2, none⟩ = some (.int .i64 0) := hz.cell 2; have q3 : w1.cell? ⟨W.heap.size + 1, 3, none⟩ = some (.int .i64 0) := hz.cell 3; have q4 : w1.cell? ⟨W.heap.size + 1, 4, none⟩ = some (.bool false) := hz.cell 4; have r0 := hz.frozen 0; have r1 := hz.frozen 1; have r2 := hz.frozen 2; have r3 := hz.frozen 3; have r4 := hz.frozen 4; have HZ := Lib.hid hz; clear hz))
  · have HE := Lib.hid (K0.out.1.trans (hb1.mono K0.out.1.size))
    clear hb1
    cases hk : sameK u0 u1 u2 a b d
    · have hv : atP (some ((u0, u1, u2), u3)) (a, b, d) = (0, false) := by
        have := (sameK_iff (u0, u1, u2) (a, b, d)).symm.trans hk
        show (if _ then _ else _) = _
        rw [if_neg (of_decide_eq_false this)]
      have HV := Lib.hid (HG.out.trans hv)
      clear hv
      go_wp2_with fail
      go_ret2
      unfold RetGet
      rw [HV.out]
      exact ⟨rfl, HE.out.alloc HE.out.size _⟩
    · have hv : atP (some ((u0, u1, u2), u3)) (a, b, d) = (u3, true) := by
        have := (sameK_iff (u0, u1, u2) (a, b, d)).symm.trans hk
        show (if _ then _ else _) = _
        rw [if_pos (of_decide_eq_true this)]
      have HV := Lib.hid (HG.out.trans hv)
      clear hv
      go_wp2_with fail
      go_ret2
      unfold RetGet
      rw [HV.out]
      exact ⟨rfl, HE.out.alloc HE.out.size _⟩
  · have HE := Lib.hid (K1.out.1.trans (hb1.mono K1.out.1.size))
    clear hb1
    cases hk : sameK u0 u1 u2 a b d
    · have hv : atP (some ((u0, u1, u2), u3)) (a, b, d) = (0, false) := by
        have := (sameK_iff (u0, u1, u2) (a, b, d)).symm.trans hk
        show (if _ then _ else _) = _
        rw [if_neg (of_decide_eq_false this)]
      have HV := Lib.hid (HG.out.trans hv)
      clear hv
      go_wp2_with fail
      go_ret2
      unfold RetGet
      rw [HV.out]
      exact ⟨rfl, (((((HE.out.setCell HL1.out _).setCell HL1.out _).setCell HL1.out _).setCell HL1.out _).setCell HL1.out _)⟩
    · have hv : atP (some ((u0, u1, u2), u3)) (a, b, d) = (u3, true) := by
        have := (sameK_iff (u0, u1, u2) (a, b, d)).symm.trans hk
        show (if _ then _ else _) = _
        rw [if_pos (of_decide_eq_true this)]
      have HV := Lib.hid (HG.out.trans hv)
      clear hv
      go_wp2_with fail
      go_ret2
      unfold RetGet
      rw [HV.out]
      exact ⟨rfl, (((((HE.out.setCell HL1.out _).setCell HL1.out _).setCell HL1.out _).setCell HL1.out _).setCell HL1.out _)⟩
theorem get_any {a b d : Int} (h : MemoR W p g n c T) :
    Calls Try.prog 57 #[.pointer (some ⟨p, 0, none⟩), .agg #[.int .i64 a, .int .i64 b, .int .i64 d]] W (RetGet n T (a, b, d) W) := by
  cases ht : T (slotP n (a, b, d)) with
  | none => exact get_none h ht
  | some x => exact get_some h ht
end
end Go.Proofs.Ytdgjbbcalffbcaa.Mem
