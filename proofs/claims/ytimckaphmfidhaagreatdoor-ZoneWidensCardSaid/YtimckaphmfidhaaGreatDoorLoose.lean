/- The contract of the document's Loose: a right zone with a point, a variable of it. -/
import Derived.Test.YtimckaphmfidhaaGreatDoorChangesMath
namespace Go.Proofs.YtimckaphmfidhaaGreatDoor
open Go.RowKit
attribute [local go_sem ↓] Go.wp_at_zero Go.wp_at_succ

/-- Where Loose stands: the bounds of i with the first k are the greatest. -/
def lsUp (C : Mat) (i k : Nat) : Mat := fun a b => if ((a = i ∧ b < k) ∨ (b = i ∧ a < k)) ∧ a ≠ b then far a b else C a b
theorem lsUp_zero (C : Mat) (i : Nat) : lsUp C i 0 = C := by
  funext a b
  unfold lsUp
  rw [if_neg (by omega)]
theorem lsUp_self (C : Mat) (i : Nat) : lsUp C i (i + 1) = lsUp C i i := by
  funext a b
  unfold lsUp
  by_cases e : ((a = i ∧ b < i) ∨ (b = i ∧ a < i)) ∧ a ≠ b
  · rw [if_pos e, if_pos (by omega)]
  · rw [if_neg e, if_neg (by omega)]
theorem lsUp_step {C : Mat} {i k : Nat} (h : k ≠ i) : upd (upd (lsUp C i k) i k (far i k)) k i (far k i) = lsUp C i (k + 1) := by
  funext a b
  unfold upd
  by_cases e1 : a = k ∧ b = i
  · obtain ⟨rfl, rfl⟩ := e1
    rw [if_pos ⟨rfl, rfl⟩]
    unfold lsUp
    rw [if_pos (by omega)]
  · rw [if_neg e1]
    by_cases e2 : a = i ∧ b = k
    · obtain ⟨rfl, rfl⟩ := e2
      rw [if_pos ⟨rfl, rfl⟩]
      unfold lsUp
      rw [if_pos (by omega)]
    · rw [if_neg e2]
      unfold lsUp
      by_cases e : ((a = i ∧ b < k) ∨ (b = i ∧ a < k)) ∧ a ≠ b
      · rw [if_pos e, if_pos (by omega)]
      · rw [if_neg e, if_neg (by omega)]
theorem lsUp_all {m : Nat} (C : Mat) (i : Nat) : Same m (lsUp C i m) (lsM C i) := fun a b ha hb => by
  unfold lsUp lsM
  by_cases e : (a = i ∨ b = i) ∧ a ≠ b
  · rw [if_pos e, if_pos (by omega)]
  · rw [if_neg e, if_neg (by omega)]
/-- The boxes, and the row that is written. -/
structure LT (w : World) (m g c go co : Nat) (E : Mat) (W : World) : Prop where
  za : Duo W w.heap.size 24 (.int .i64 ((m : Int) - 1)) (.slice (some ⟨g, 0, none⟩) (m * m) c)
  zr : Duo W (w.heap.size + 1) 24 (.int .i64 0) (.slice none 0 0)
  low : Below w.heap.size w W
  row : RZ m go co E (w.heap.size + 2) W
  new : w.heap.size + 2 ≤ go
section
variable {w W : World} {m g c go co i j : Nat} {E E' : Mat} {x : Int}
theorem LT.drew (h : LT w m g c go co E W) : LT w m g c go co E W.drew := ⟨h.za, h.zr, h.low.drew, h.row.below (Below.refl _ _).drew, h.new⟩
theorem LT.below {W1 : World} (h : LT w m g c go co E W) (hb : Below W.heap.size W W1) : LT w m g c go co E W1 := ⟨h.za.below hb, h.zr.below hb, h.low.trans (hb.mono h.low.size), h.row.below hb, h.new⟩
theorem LT.put (h : LT w m g c go co E W) (_ : i < m) (hj : j < m) (x : Int) : LT w m g c go co (upd E i j x) (W.setCell ⟨go, i * m + j, none⟩ (.int .i64 x)) := by
  obtain ⟨hs, -⟩ := h.row.row.stored (i * m + j) (.int .i64 x)
  rw [← List.map_set, flat_set E hj x] at hs
  have hn := h.new
  exact ⟨h.za.other (by show w.heap.size ≠ go; omega) _, h.zr.other (by show w.heap.size + 1 ≠ go; omega) _, h.low.setCell (p := ⟨go, i * m + j, none⟩) (by show w.heap.size ≤ go; omega) _, ⟨hs⟩, h.new⟩
theorem LT.congr (h : LT w m g c go co E W) (he : Same m E E') : LT w m g c go co E' W := ⟨h.za, h.zr, h.low, ⟨by rw [← flat_congr he]; exact h.row.row⟩, h.new⟩
end
section
variable {w : World} {m g c i base : Nat} {C : Mat}
end
end Go.Proofs.YtimckaphmfidhaaGreatDoor
