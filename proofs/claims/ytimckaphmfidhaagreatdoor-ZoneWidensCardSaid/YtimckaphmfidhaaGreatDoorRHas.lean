/- The contracts of the document's Get and Has, of right zones. -/
import Derived.Test.YtimckaphmfidhaaGreatDoorGRef
import Derived.Test.YtimckaphmfidhaaGreatDoorPut
import Derived.Test.YtimckaphmfidhaaGreatDoorGHas
import Derived.BigRegion
import Derived.Deep.LoopGhost
namespace Go.Proofs.YtimckaphmfidhaaGreatDoor
open Go.RowKit
attribute [local go_sem ↓] Go.wp_at_zero Go.wp_at_succ

theorem RowAt.below {W W1 : World} {x : Value} {m : Nat} {ys : List Value} (h : RowAt W x m ys) (hb : Below W.heap.size W W1) : RowAt W1 x m ys := by
  rcases h with ⟨h1, h2, h3⟩ | ⟨ad, c, h1, h2⟩
  · exact .inl ⟨h1, h2, h3⟩
  · exact .inr ⟨ad, c, h1, fun j u hj => (hb.cell (World.block_lt_of_cell? W _ (h2 j u hj))).trans (h2 j u hj)⟩
set_option maxRecDepth 100000 in
set_option maxHeartbeats 3200000 in
theorem rget_in {w : World} {m g c i j : Nat} {C : Mat} (h7 : m ≤ 7) (hp : RP m g c C w) (hi : i < m) (hj : j < m) :
    Calls Tryz.prog 50 #[zoneV ((m : Int) - 1) (some ⟨g, 0, none⟩) (m * m) c, .int .i64 (i : Int), .int .i64 (j : Int)] w (RetI w (C i j)) := by
  obtain ⟨e1, e2, e3, e4⟩ := mul_idx h7 hi hj
  have hb := zboxed w (.cells #[.int .i64 ((m : Int) - 1), .slice (some ⟨g, 0, none⟩) (m * m) c] 24)
  have k := Duo.new w 24 (.int .i64 ((m : Int) - 1)) (.slice (some ⟨g, 0, none⟩) (m * m) c)
  have hat : ∀ t, t = i * m + j → (w.alloc (.cells #[.int .i64 ((m : Int) - 1), .slice (some ⟨g, 0, none⟩) (m * m) c] 24)).cell? ⟨g, t, none⟩ = some (.int .i64 (C i j)) ∧ g < (w.alloc (.cells #[.int .i64 ((m : Int) - 1), .slice (some ⟨g, 0, none⟩) (m * m) c] 24)).heap.size := fun t ht => by
    subst ht
    have := (hp.below hb).row
    exact ⟨(this.cellAt _ (by omega)).trans (by rw [List.getElem?_map, flat_at C hi hj]; rfl), (this.lt g rfl).2⟩
  have HB := Lib.hid hb
  obtain ⟨W1, hW1⟩ : ∃ W1, w.alloc (.cells #[.int .i64 ((m : Int) - 1), .slice (some ⟨g, 0, none⟩) (m * m) c] 24) = W1 := ⟨_, rfl⟩
  rw [hW1] at HB k hat
  have c0 := k.cell0
  have c1 := k.cell1
  have c2 := k.lt
  obtain ⟨x, hx⟩ : ∃ x, C i j = x := ⟨_, rfl⟩
  rw [hx] at hat ⊢
  obtain ⟨t, ht⟩ : ∃ t, i * m + j = t := ⟨_, rfl⟩
  obtain ⟨c3, c4⟩ := hat t ht.symm
  rw [ht] at e1 e4
  have q0 : (((m * m : Nat) : Int) == 0) = false := by simp; omega
  have q1 : decide (m * m = 0) = false := decide_eq_false (by omega)
  have q3 : ((m : Int) * (m : Int) == 0) = false := by rw [← Int.natCast_mul]; exact q0
  have q4 : decide ((m : Int) * (m : Int) = 0) = false := by rw [← Int.natCast_mul]; exact decide_eq_false (by omega)
  have d1 : decide ((i : Int) < 0) = false := decide_eq_false (by omega)
  have d2 : decide ((m : Int) - 1 < (i : Int)) = false := decide_eq_false (by omega)
  have d3 : decide ((j : Int) < 0) = false := decide_eq_false (by omega)
  have d4 : decide ((m : Int) - 1 < (j : Int)) = false := decide_eq_false (by omega)
  have e5 : (t : Int) < ((m * m : Nat) : Int) := by omega
  have e6 : (t : Int) < (m : Int) * (m : Int) := by rw [← Int.natCast_mul]; exact e5
  have hw0 : IntKind.i64.wrap (m : Int) = (m : Int) := IntWalk.i64_in _ (by omega)
  have hw1 : IntKind.i64.wrap ((i : Int) * (m : Int)) = (i : Int) * (m : Int) := IntWalk.i64_in _ (by omega)
  have hw2 : IntKind.i64.wrap ((i : Int) * (m : Int) + (j : Int)) = (t : Int) := by rw [e1]; exact IntWalk.i64_in _ (by omega)
  have hw3 : IntKind.i64.wrap (t : Int) = (t : Int) := IntWalk.i64_in _ (by omega)
  clear hat k hb hx ht hp hi hj
  go_enter Tryz.func50, Tryz.ntmps50
  go_wp2_with fail
  go_ret
  exact ⟨rfl, HB.out⟩
/-- While Has goes: the box, the row of the zone, that of the point behind 0. -/
structure RH (w : World) (m g c gq n : Nat) (C : Mat) (f : Nat → Int) (W : World) : Prop where
  low : Below w.heap.size w W
  zb : Duo W w.heap.size 24 (.int .i64 ((m : Int) - 1)) (.slice (some ⟨g, 0, none⟩) (m * m) c)
  row : RP m g c C W
  q : PtAt W gq 0 (n + 1) (vof f)
section
variable {w W W1 : World} {m g c gq n : Nat} {C : Mat} {f : Nat → Int}
theorem RH.below (h : RH w m g c gq n C f W) (hb : Below W.heap.size W W1) : RH w m g c gq n C f W1 := ⟨h.low.trans (hb.mono h.low.size), h.zb.below hb, h.row.below hb, h.q.below hb⟩
theorem RH.cells (h : RH w m g c gq n C f W) : (W.cell? ⟨w.heap.size, 0, none⟩ = some (.int .i64 ((m : Int) - 1)) ∧ W.cell? ⟨w.heap.size, 1, none⟩ = some (.slice (some ⟨g, 0, none⟩) (m * m) c)) ∧ w.heap.size < W.heap.size := ⟨⟨h.zb.cell0, h.zb.cell1⟩, h.zb.lt⟩
theorem RH.at_ (h : RH w m g c gq n C f W) {k : Nat} (hk : k ≤ n) : W.cell? ⟨gq, k, none⟩ = some (.int .i64 (vof f k)) ∧ gq < W.heap.size := by
  have := h.q.2 k (by omega)
  rw [Nat.zero_add] at this
  exact ⟨this, h.q.1⟩
end
theorem nums_cons (n : Nat) (f : Nat → Int) : #[Value.int .i64 0].toList ++ nums n f = nums (n + 1) (vof f) := by
  unfold nums
  rw [List.range_succ_eq_map, List.map_cons, List.map_map]
  rfl
theorem inB_of {x : Int} (h : -1152921504606846976 ≤ x ∧ x ≤ 1152921504606846976) : inB x = true := inB_yes h.1 h.2
theorem inB_bd {c : Int} (h : inB c = true) : -1152921504606846976 ≤ c ∧ c ≤ 1152921504606846976 := by
  unfold inB at h
  simpa using h
section
variable {w : World} {m n cp ba ca : Nat} {A P : Option Addr} {f : Nat → Int} {R : Option Mat}
end
end Go.Proofs.YtimckaphmfidhaaGreatDoor
