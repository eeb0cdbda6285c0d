/- The contract of cells: all rows and columns of n variables, row by row, for whatever loop body leaves the number of variables as it was. -/
import Derived.RangeFuncBox
import Derived.RangeFuncLeaves
import Derived.RangeFuncNested
import Derived.Shelf.Abstract
import Derived.WalkKit
import Derived.OwnWalkIn
import Derived.TacticsInMore
import Derived.LoopNIn
import Derived.LoopIn
import Derived.Test.YtlddelnbjihhgaaGreatDoorProg
namespace Go.Proofs.YtlddelnbjihhgaaGreatDoor
open Go.RowKit Go.Shelf
attribute [local go_sem] Oper.semAt_some

/-- A row and a column, of m. -/
abbrev Cell (m : Nat) := { x : Nat × Nat // x.1 < m ∧ x.2 < m }
/-- The row and the column of the t-th bound, of m rows. -/
def spot {m : Nat} (h : 0 < m) (t : Nat) : Cell m := ⟨(t / m % m, t % m), Nat.mod_lt _ h, Nat.mod_lt _ h⟩
/-- The first t of them. -/
def spots {m : Nat} (h : 0 < m) (t : Nat) : List (Cell m) := (List.range t).map (spot h)
theorem spots_succ {m : Nat} (h : 0 < m) (t : Nat) : spots h (t + 1) = spots h t ++ [spot h t] := by simp [spots, List.range_succ]
theorem spots_len {m : Nat} (h : 0 < m) (t : Nat) : (spots h t).length = t := by simp [spots]
theorem spot_at {m i j : Nat} (h : 0 < m) (hi : i < m) (hj : j < m) : spot h (i * m + j) = ⟨(i, j), hi, hj⟩ := by
  unfold spot
  apply Subtype.ext
  show ((i * m + j) / m % m, (i * m + j) % m) = (i, j)
  rw [Nat.mul_comm i m, Nat.mul_add_div (by omega), Nat.mul_add_mod, Nat.div_eq_of_lt hj, Nat.mod_eq_of_lt hj]
  rw [Nat.add_zero, Nat.mod_eq_of_lt hi]
theorem spots_next {m i j : Nat} (h : 0 < m) (hi : i < m) (hj : j < m) : spots h (i * m + (j + 1)) = spots h (i * m + j) ++ [⟨(i, j), hi, hj⟩] := by
  rw [← spot_at h hi hj, ← spots_succ]; rfl
theorem spots_row {m i : Nat} (h : 0 < m) : spots h ((i + 1) * m) = spots h (i * m + m) := by rw [Nat.succ_mul]
theorem spot_lt {m i j : Nat} (hi : i < m) (hj : j < m) : i * m + j < m * m := by
  have h1 : (i + 1) * m ≤ m * m := Nat.mul_le_mul_right m hi
  rw [Nat.succ_mul] at h1
  omega

/-- One cell of a block is as it was. -/
def CellKept (B : Nat) (W W' : World) : Prop := W'.cell? ⟨B, 0, none⟩ = W.cell? ⟨B, 0, none⟩

set_option maxRecDepth 100000 in
set_option maxHeartbeats 2000000 in
theorem cells1_in (F : Fence) (n : Nat) (hf : F.fn 93) (hro : F.round = none) (hn : 1 ≤ n) (l B m : Nat) (hm : m ≤ 7) (h0m : 0 < m) (J Jx : List (Cell m) → World → Prop)
    (hY : ∀ pre x W, J pre W → pre.length < m * m → YieldAt F (n - 1) Tryz.prog l #[.int .i64 (x.1.1 : Int), .int .i64 (x.1.2 : Int)] W fun e W' =>
      (e = .returned (.bool true) ∧ J (pre ++ [x]) W' ∧ CellKept B W W') ∨ (e = .returned (.bool false) ∧ Jx (pre ++ [x]) W'))
    (W : World) (hB : W.cell? ⟨B, 0, none⟩ = some (.int .i64 ((m : Int) - 1))) (h0 : J [] W) :
    CallsIn F n Tryz.prog 93 #[.func (.yield l) #[] #[], .pointer (some ⟨B, 0, none⟩)] W fun e W' => (∃ v, e = .returned v) ∧
      ((∃ ys, ys = spots h0m (m * m) ∧ J ys W') ∨ (∃ pre, (∃ t, t ≤ m * m ∧ pre = spots h0m t) ∧ Jx pre W')) := by
  have hw : (m : Int) - 1 + 1 = m := by omega
  refine callsIn_of_wp Tryz.func93 rfl hf ?_ hro
  simp only [Tryz.ntmps93, List.size_toArray, List.length_cons, List.length_nil, Nat.reduceAdd, Nat.reduceSub, Array.replicate_succ, Array.replicate_zero, List.push_toArray, List.append_toArray, List.nil_append, List.cons_append]
  gi_wp2
  gi_loopw [7] (fun i wr => ∃ k : Nat, k ≤ m ∧ i = .int .i64 k ∧ J (spots h0m (k * m)) wr ∧ CellKept B W wr) (fun i _ => m - (intOf i).toNat)
  case atStart => exact ⟨0, Nat.zero_le _, rfl, by simpa [spots] using h0, rfl⟩
  case round =>
    obtain ⟨k, hk, rfl, hJs, hck⟩ := hrel
    by_cases hlt : k < m
    · have hB1 : wr.cell? ⟨B, 0, none⟩ = some (.int .i64 ((m : Int) - 1)) := hck.trans hB
      obtain ⟨wo, rfl⟩ : ∃ wo : World, wo = wr := ⟨_, rfl⟩
      gi_wp2
      gi_loopw [12] (fun i wr => ∃ j : Nat, j ≤ m ∧ i = .int .i64 j ∧ J (spots h0m (k * m + j)) wr ∧ CellKept B W wr) (fun i _ => m - (intOf i).toNat)
      case atStart => exact ⟨0, Nat.zero_le _, rfl, hJs, hck⟩
      case round =>
        obtain ⟨j, hj, rfl, hJj, hcj⟩ := hrel
        by_cases hlj : j < m
        · obtain ⟨fn, tmps, assign, body, hy, hR⟩ := hY _ ⟨(k, j), hlt, hlj⟩ wr hJj (by rw [spots_len]; exact spot_lt hlt hlj)
          dsimp only at hy
          gi_wp2
          refine hR.mono ?_
          rintro e W3 (⟨rfl, hJ3, hk3⟩ | ⟨rfl, hJx3⟩)
          · gi_wp2
            go_roundw
            case rel => exact ⟨j + 1, by omega, by simp, by rw [spots_next h0m hlt hlj]; exact hJ3, hk3.trans hcj⟩
            case measure => simp [intOf]; omega
          · gi_wp2
            refine bodyPost_ret (results_none rfl _ _ _) rfl ?_
            exact ⟨⟨_, rfl⟩, .inr ⟨_, ⟨k * m + (j + 1), by have := spot_lt hlt hlj; omega, (spots_next h0m hlt hlj).symm⟩, hJx3⟩⟩
        · obtain rfl : j = m := by omega
          gi_wp2
          go_roundw
          case rel => exact ⟨k + 1, by omega, by simp, by rw [spots_row h0m]; exact hJj, hcj⟩
          case measure => simp [intOf]; omega
    · obtain rfl : k = m := by omega
      gi_wp2
      go_end0
      exact ⟨⟨_, rfl⟩, .inl ⟨_, rfl, hJs⟩⟩

set_option maxHeartbeats 1000000 in
/-- cells(n): the number is boxed, and the function value has the box. -/
theorem cells_in (F : Fence) (n : Nat) (hf : F.fn 68) (hro : F.round = none) (x : Int) (w : World) :
    CallsIn F n Tryz.prog 68 #[.int .i64 x] w fun e w' => e = .returned (.func (.func 93) #[] #[.pointer (some ⟨w.heap.size, 0, none⟩)]) ∧ w' = w.alloc (.cells #[.int .i64 x] 3) := by
  refine callsIn_of_wp Tryz.func68 rfl hf ?_ hro
  simp only [Tryz.ntmps68, List.size_toArray, List.length_cons, List.length_nil, Nat.reduceAdd, Nat.reduceSub, Array.replicate_succ, Array.replicate_zero, List.push_toArray, List.append_toArray, List.nil_append, List.cons_append]
  gi_wp2
  go_ret
  exact ⟨rfl, rfl⟩

/-- What cells hands back goes through all rows and columns, as long as the loop's body leaves its box. -/
theorem cells_stops (F : Fence) (n : Nat) (hf : F.fn 93) (hro : F.round = none) (hn : 1 ≤ n) (B m : Nat) (hm : m ≤ 7) (h0m : 0 < m) (w : World) (hBw : B < w.heap.size) (hB : w.cell? ⟨B, 0, none⟩ = some (.int .i64 ((m : Int) - 1))) :
    SeqStopsK F n Tryz.prog 93 #[.pointer (some ⟨B, 0, none⟩)] (fun x : Cell m => #[Value.int .i64 (x.1.1 : Int), Value.int .i64 (x.1.2 : Int)]) (CellKept B) (fun ys => ys = spots h0m (m * m)) (fun pre => ∃ t, t ≤ m * m ∧ pre = spots h0m t) (m * m) w := fun l J Jx W hW _ _ hY h0 =>
  cells1_in F n hf hro hn l B m hm h0m J Jx hY W ((hW.cell (p := ⟨B, 0, none⟩) hBw).trans hB) h0
theorem cellKept_t {B : Nat} {a b c : World} (h : CellKept B a b) (k : CellKept B b c) : CellKept B a c := Eq.trans k h
theorem cellKept_b {B : Nat} {w : World} (hB : B < w.heap.size) (W : World) (l : Nat) (o o' : Obj) (hl : w.heap.size ≤ l) (h : W.heap[l]? = some o) (h1 : o.isCells = false) (h2 : o.isWalk = false) : CellKept B W (W.putObj l o') :=
  (belowK_b (n₀ := B + 1) (w := w) (by omega) W l o o' hl h h1 h2).cell (p := ⟨B, 0, none⟩) (by simp)
end Go.Proofs.YtlddelnbjihhgaaGreatDoor
