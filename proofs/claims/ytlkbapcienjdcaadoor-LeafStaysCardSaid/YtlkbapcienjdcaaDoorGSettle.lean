/- Put together of: Least, SettleNums, Marks, Settle. -/
import Derived.Test.YtlkbapcienjdcaaDoorGFound
import Derived.RegionTactic
import Derived.Lib.MinMax
import Derived.Laws.OwnMore
import Derived.RangeFuncLeaves
import Derived.RangeFuncRecord
import Derived.IntWalk
/- The contracts of farthest, may, Bottom, none, lower. -/
namespace Go.Proofs.YtlkbapcienjdcaaDoor
open Go.RowKit
attribute [local go_sem ↓] Go.wp_at_zero Go.wp_at_succ

set_option maxHeartbeats 400000 in
theorem far_any (i j : Nat) (hi : i ≤ 6) (hj : j ≤ 6) (w : World) : Calls Tryd.prog 41 #[.int .i64 (i : Int), .int .i64 (j : Int)] w fun e w' => e = .returned (.int .i64 (far i j)) ∧ w = w' := by
  rcases far_cases i j with ⟨h, e⟩ | ⟨h, h2, e⟩ | ⟨h, h2, h3, e⟩
  · rw [e]
    have b1 : ((i : Int) == (j : Int)) = true := by simp; omega
    clear e h
    go_enter Tryd.func41, Tryd.ntmps41
    go_wp2_with fail
    go_ret
    exact ⟨rfl, rfl⟩
  · rw [e]
    have b1 : ((i : Int) == (j : Int)) = false := by simp; omega
    by_cases h0 : i = 0
    · subst h0
      clear e h h2
      go_enter Tryd.func41, Tryd.ntmps41
      go_wp2_with fail
      go_ret
      exact ⟨rfl, rfl⟩
    · obtain rfl : j = 0 := by omega
      have b2 : ((i : Int) == 0) = false := by simp; omega
      clear e h h2
      go_enter Tryd.func41, Tryd.ntmps41
      go_wp2_with fail
      go_ret
      exact ⟨rfl, rfl⟩
  · rw [e]
    have b1 : ((i : Int) == (j : Int)) = false := by simp; omega
    have b2 : ((i : Int) == 0) = false := by simp; omega
    have b3 : ((j : Int) == 0) = false := by simp; omega
    clear e h h2 h3
    go_enter Tryd.func41, Tryd.ntmps41
    go_wp2_with fail
    go_ret
    exact ⟨rfl, rfl⟩

def mayB (n : Int) : Bool := decide (0 ≤ n ∧ n ≤ 6)
theorem mayB_iff (n : Int) : mayB n = true ↔ (0 ≤ n ∧ n ≤ 6) := by unfold mayB; exact decide_eq_true_iff
set_option maxHeartbeats 400000 in
theorem may_any (n : Int) (w : World) : Calls Tryd.prog 39 #[.int .i64 n] w fun e w' => e = .returned (.bool (mayB n)) ∧ w = w' := by
  by_cases h0 : 0 ≤ n
  · by_cases h1 : n ≤ 6
    · rw [(mayB_iff n).2 ⟨h0, h1⟩]
      go_enter Tryd.func39, Tryd.ntmps39
      go_wp2_with fail
      go_ret
      exact ⟨rfl, rfl⟩
    · have e : mayB n = false := by cases h : mayB n; rfl; exact absurd ((mayB_iff n).1 h).2 h1
      rw [e]
      clear e
      go_enter Tryd.func39, Tryd.ntmps39
      go_wp2_with fail
      go_ret
      exact ⟨rfl, rfl⟩
  · have e : mayB n = false := by cases h : mayB n; rfl; exact absurd ((mayB_iff n).1 h).1 h0
    have h2 : decide (0 ≤ n) = false := decide_eq_false h0
    rw [e]
    clear e h0
    go_enter Tryd.func39, Tryd.ntmps39
    go_wp2_with fail
    go_ret
    exact ⟨rfl, rfl⟩

/-- A bottom is handed back. -/
def RetBot (n : Int) (w : World) (e : Ending) (w' : World) : Prop := e = .returned (.agg #[.int .i64 n, .slice none 0 0]) ∧ Below w.heap.size w w'
def botN (n : Int) : Int := if mayB n = true then n else 0
set_option maxHeartbeats 400000 in
theorem bottom_any (n : Int) (w : World) : Calls Tryd.prog 20 #[.int .i64 n] w (RetBot (botN n) w) := by
  unfold botN
  cases h : mayB n
  · simp only [Bool.false_eq_true, if_false]
    go_enter Tryd.func20, Tryd.ntmps20
    go_wp2_with (go_at_call 39; ((with_reducible refine (may_any _ _).mono ?_); rintro e w' ⟨rfl, rfl⟩))
    exact bodyPost_ret (v := .agg #[.int .i64 0, .slice none 0 0]) (by simp [results, Tryd.results20, go_sem]) rfl ⟨rfl, zboxed _ _⟩
  · simp only [if_true]
    go_enter Tryd.func20, Tryd.ntmps20
    go_wp2_with (go_at_call 39; ((with_reducible refine (may_any _ _).mono ?_); rintro e w' ⟨rfl, rfl⟩))
    exact bodyPost_ret (v := .agg #[.int .i64 n, .slice none 0 0]) (by simp [results, Tryd.results20, go_sem]) rfl ⟨rfl, zboxed _ _⟩

set_option maxHeartbeats 400000 in
theorem none_any (n : Int) (A : Option Addr) (len cap : Nat) (w : World) : Calls Tryd.prog 36 #[zoneV n A len cap] w (ZRetBool (decide (len = 0)) w) := by
  by_cases h : len = 0
  · subst h
    go_enter Tryd.func36, Tryd.ntmps36
    go_wp2_with fail
    go_ret
    exact ⟨rfl, zboxed _ _⟩
  · rw [decide_eq_false h]
    have h' : ((len : Int) == 0) = false := by simp; omega
    clear h
    go_enter Tryd.func36, Tryd.ntmps36
    go_wp2_with fail
    go_ret
    exact ⟨rfl, zboxed _ _⟩

theorem below_grown {w w1 w2 : World} {row : Option Nat} (hb : Below w.heap.size w w1) (hg : w1.grownBy w2 row) : w.grownBy w2 row :=
  ⟨hg.os.trans hb.os, hg.tape.trans hb.tape, hg.output.trans hb.output, Nat.le_trans hb.size hg.size, fun k hk hne => (hg.block k (Nat.lt_of_lt_of_le hk hb.size) hne).trans (hb.block k hk)⟩
theorem grown_drew {w w1 : World} {row : Option Nat} (h : w.grownBy w1 row) : w.grownBy w1.drew row := ⟨h.os, h.tape, h.output, h.size, h.block⟩
theorem grown_below {w w1 w2 : World} {row : Option Nat} (hg : w.grownBy w1 row) (hb : Below w1.heap.size w1 w2) : w.grownBy w2 row :=
  ⟨hb.os.trans hg.os, hb.tape.trans hg.tape, hb.output.trans hg.output, Nat.le_trans hg.size hb.size, fun k hk hne => (hb.block k (Nat.lt_of_lt_of_le hk hg.size)).trans (hg.block k hk hne)⟩
theorem grown_grown {w w1 w2 : World} {row : Option Nat} (hg : w.grownBy w1 row) (hb : w1.grownBy w2 row) : w.grownBy w2 row :=
  ⟨hb.os.trans hg.os, hb.tape.trans hg.tape, hb.output.trans hg.output, Nat.le_trans hg.size hb.size, fun k hk hne => (hb.block k (Nat.lt_of_lt_of_le hk hg.size) hne).trans (hg.block k hk hne)⟩
/-- Nothing is handed back; of what was there the row alone has changed. -/
def RetLow (w : World) (base g n cap : Nat) (ys : List Int) (e : Ending) (w' : World) : Prop :=
  (∃ v, e = .returned v) ∧ w'.ownsRow base 3 1 (.slice (some ⟨g, 0, none⟩) n cap) n (ys.map (Value.int .i64)) ∧ w.grownBy w' (some g)
theorem spot_num {m i j : Nat} (hm : m ≤ 7) (hi : i < m) (hj : j < m) : (i : Int) * ((m : Int) - 1 + 1) + j = ((i * m + j : Nat) : Int) ∧ 0 ≤ (i : Int) * ((m : Int) - 1 + 1) ∧ (i : Int) * ((m : Int) - 1 + 1) ≤ 100 ∧ i * m + j < m * m := by
  have e : (m : Int) - 1 + 1 = m := by omega
  have h1 : i * m ≤ 6 * 7 := Nat.mul_le_mul (by omega) hm
  have h2 : ((i * m : Nat) : Int) = (i : Int) * m := by simp
  rw [e]
  refine ⟨by omega, by omega, by omega, spot_lt hi hj⟩

set_option maxRecDepth 100000 in
set_option maxHeartbeats 1600000 in
theorem lower_any (m i j : Nat) (hm7 : m ≤ 7) (hi : i < m) (hj : j < m) (g cap base : Nat) (xs : List Int) (x b : Int) (w : World) (hown : w.ownsRow base 3 1 (.slice (some ⟨g, 0, none⟩) (m * m) cap) (m * m) (xs.map (Value.int .i64))) (hx : xs[i * m + j]? = some x) :
    Calls Tryd.prog 46 #[zoneV ((m : Int) - 1) (some ⟨g, 0, none⟩) (m * m) cap, .int .i64 (i : Int), .int .i64 (j : Int), .int .i64 b] w (RetLow w base g (m * m) cap (xs.set (i * m + j) (min x b))) := by
  obtain ⟨e1, e2, e3, e4⟩ := spot_num hm7 hi hj
  have HP := Lib.hid (fun W => place_any ((m : Int) - 1) i j (some ⟨g, 0, none⟩) (m * m) cap W (by omega) (by omega) (by omega) _ e1 ⟨e2, e3⟩)
  have HO := Lib.hid hown
  have hg := (hown.lt g rfl).2
  have hmm : m * m ≤ 49 := Nat.mul_le_mul hm7 hm7
  have hc := hown.cellAt (i * m + j) (by omega)
  rw [List.getElem?_map, hx] at hc
  have hf := hown.frozenAt (i * m + j)
  generalize i * m + j = t at *
  generalize hL : m * m = L at *
  clear e1 e2 e3 hown hx
  have HC := Lib.hid (show w.cell? ⟨g, t, none⟩ = some (.int .i64 x) from hc)
  have HFr := Lib.hid hf
  clear hc hf
  go_enter Tryd.func46, Tryd.ntmps46
  go_wp2_with fail
  refine (HP.out _).mono ?_
  rintro e w1 ⟨rfl, hb1⟩
  have hB := Lib.hid (zthen (zboxed w _) hb1)
  have hD := (Duo.new w 39 (.int .i64 ((m : Int) - 1)) (.slice (some ⟨g, 0, none⟩) L cap)).below hb1
  have c1 := hD.cell1
  have cx : w1.cell? ⟨g, t, none⟩ = some (.int .i64 x) := (hB.out.cell (p := ⟨g, t, none⟩) hg).trans HC.out
  have fx : w1.frozen? ⟨g, t, none⟩ = false := (hB.out.frozen (p := ⟨g, t, none⟩) hg).trans HFr.out
  clear hb1 hD
  go_wp2_with fail
  go_region
  all_goals go_wp2_with fail
  all_goals go_end0
  have hO1 := own_kept_below HO.out hB.out
  have hS := hO1.stored t (.int .i64 (min x b))
  exact ⟨⟨_, rfl⟩, by rw [List.map_set]; exact hS.1, grown_drew (below_grown hB.out hS.2)⟩
end Go.Proofs.YtlkbapcienjdcaaDoor

/- What settle makes of a row of bounds, cell by cell. Nothing of the program is walked here. -/
namespace Go.Proofs.YtlkbapcienjdcaaDoor

/-- One bound put in. -/
def upd (C : Mat) (i j : Nat) (v : Int) : Mat := fun a b => if a = i ∧ b = j then v else C a b
theorem flat_at {m : Nat} (C : Mat) {i j : Nat} (hi : i < m) (hj : j < m) : (flatL m C)[i * m + j]? = some (C i j) := by
  unfold flatL
  rw [List.getElem?_map, List.getElem?_range (spot_lt hi hj)]
  show some (C ((i * m + j) / m) ((i * m + j) % m)) = _
  rw [Nat.mul_comm i m, Nat.mul_add_div (by omega), Nat.mul_add_mod, Nat.div_eq_of_lt hj, Nat.mod_eq_of_lt hj, Nat.add_zero]
theorem flat_congr {m : Nat} {C D : Mat} (h : Same m C D) : flatL m C = flatL m D := by
  unfold flatL
  refine List.map_congr_left fun t ht => ?_
  have ht : t < m * m := by simpa using ht
  have hm : 0 < m := by
    rcases Nat.eq_zero_or_pos m with e | e
    · subst e; omega
    · exact e
  exact h _ _ (Nat.div_lt_of_lt_mul ht) (Nat.mod_lt _ hm)
theorem spot_inj {m i j a b : Nat} (hj : j < m) (hb : b < m) (h : i * m + j = a * m + b) : i = a ∧ j = b := by
  have h1 : (i * m + j) / m = i := by rw [Nat.mul_comm i m, Nat.mul_add_div (by omega), Nat.div_eq_of_lt hj, Nat.add_zero]
  have h2 : (a * m + b) / m = a := by rw [Nat.mul_comm a m, Nat.mul_add_div (by omega), Nat.div_eq_of_lt hb, Nat.add_zero]
  have e : i = a := by rw [← h1, ← h2, h]
  subst e
  omega
theorem flat_set {m : Nat} (C : Mat) {i j : Nat} (hj : j < m) (v : Int) : (flatL m C).set (i * m + j) v = flatL m (upd C i j v) := by
  apply List.ext_getElem?
  intro t
  rw [List.getElem?_set]
  unfold flatL
  by_cases ht : t < m * m
  · have hm : 0 < m := by
      rcases Nat.eq_zero_or_pos m with e | e
      · subst e; omega
      · exact e
    rw [List.getElem?_map, List.getElem?_range ht, List.getElem?_map, List.getElem?_range ht]
    have hd : t / m * m + t % m = t := by rw [Nat.mul_comm]; exact Nat.div_add_mod t m
    show (if i * m + j = t then _ else some (C (t / m) (t % m))) = some (upd C i j v (t / m) (t % m))
    by_cases e : i * m + j = t
    · rw [if_pos e]
      have hs := spot_inj hj (Nat.mod_lt t hm) (e.trans hd.symm)
      have hlt : i * m + j < ((List.range (m * m)).map fun t => C (t / m) (t % m)).length := by simp; omega
      rw [if_pos hlt]
      unfold upd
      rw [if_pos ⟨hs.1.symm, hs.2.symm⟩]
    · rw [if_neg e]
      unfold upd
      rw [if_neg]
      rintro ⟨e1, e2⟩
      exact e (by rw [← e1, ← e2]; exact hd)
  · have hn : ((List.range (m * m)).map fun t => C (t / m) (t % m))[t]? = none := List.getElem?_eq_none (by simp; omega)
    have hn2 : ((List.range (m * m)).map fun t => upd C i j v (t / m) (t % m))[t]? = none := List.getElem?_eq_none (by simp; omega)
    rw [hn, hn2]
    by_cases e : i * m + j = t
    · rw [if_pos e, if_neg (by simp; omega)]
    · rw [if_neg e]

/-- A row and a column that were come to. -/
def seen {m : Nat} (pre : List (Cell m)) (i j : Nat) : Bool := pre.any fun x => x.1.1 == i && x.1.2 == j
theorem seen_snoc {m : Nat} (pre : List (Cell m)) (x : Cell m) (i j : Nat) : seen (pre ++ [x]) i j = (seen pre i j || (x.1.1 == i && x.1.2 == j)) := by simp [seen]
theorem seen_all {m : Nat} (h : 0 < m) {i j : Nat} (hi : i < m) (hj : j < m) : seen (spots h (m * m)) i j = true := by
  unfold seen
  rw [List.any_eq_true]
  refine ⟨⟨(i, j), hi, hj⟩, ?_, by simp⟩
  rw [← spot_at h hi hj]
  unfold spots
  exact List.mem_map.2 ⟨_, List.mem_range.2 (spot_lt hi hj), rfl⟩
theorem seen_nil {m : Nat} (i j : Nat) : seen ([] : List (Cell m)) i j = false := rfl
/-- The bounds that were come to are made f's; the others are as they were. -/
def upTo {m : Nat} (A B : Mat) (pre : List (Cell m)) : Mat := fun i j => if seen pre i j = true then B i j else A i j
theorem upTo_nil {m : Nat} (A B : Mat) : upTo A B ([] : List (Cell m)) = A := by
  funext i j; unfold upTo; rw [seen_nil]; rfl
theorem upTo_all {m : Nat} (h : 0 < m) (A B : Mat) : Same m (upTo A B (spots h (m * m))) B := fun i j hi hj => by unfold upTo; rw [seen_all h hi hj]; rfl
theorem upTo_step {m : Nat} (A B : Mat) (pre : List (Cell m)) (x : Cell m) : Same m (upd (upTo A B pre) x.1.1 x.1.2 (B x.1.1 x.1.2)) (upTo A B (pre ++ [x])) := by
  intro i j _ _
  unfold upd upTo
  rw [seen_snoc]
  by_cases e : i = x.1.1 ∧ j = x.1.2
  · rw [if_pos e, e.1, e.2]; simp
  · rw [if_neg e]
    have h : (x.1.1 == i && x.1.2 == j) = false := by
      cases h : (x.1.1 == i && x.1.2 == j)
      · rfl
      · rw [Bool.and_eq_true, beq_iff_eq, beq_iff_eq] at h; exact absurd ⟨h.1.symm, h.2.symm⟩ e
    rw [h, Bool.or_false]
/-- Capped once, or again: the same. -/
theorem upTo_cap {m : Nat} (A : Mat) (pre : List (Cell m)) (i j : Nat) : min (upTo A (cap A) pre i j) (far i j) = cap A i j := by
  unfold upTo
  split
  · unfold cap; omega
  · rfl
/-- Row and column k do not change while k is taken on the way. -/
theorem via_row {L : Mat} {k : Nat} (h : L k k = 0) (i : Nat) : via L k i k = L i k := by unfold via; rw [h]; omega
theorem via_col {L : Mat} {k : Nat} (h : L k k = 0) (j : Nat) : via L k k j = L k j := by unfold via; rw [h]; omega
theorem upTo_row {m : Nat} {L : Mat} {k : Nat} (h : L k k = 0) (pre : List (Cell m)) (i : Nat) : upTo L (via L k) pre i k = L i k := by
  unfold upTo; rw [via_row h]; split <;> rfl
theorem upTo_col {m : Nat} {L : Mat} {k : Nat} (h : L k k = 0) (pre : List (Cell m)) (j : Nat) : upTo L (via L k) pre k j = L k j := by
  unfold upTo; rw [via_col h]; split <;> rfl
theorem upTo_via {m : Nat} (L : Mat) (k : Nat) (pre : List (Cell m)) (i j : Nat) : min (upTo L (via L k) pre i j) (L i k + L k j) = via L k i j := by
  unfold upTo
  split
  · unfold via; omega
  · rfl
/-- No cell that was come to was out of range. -/
def FitTo {m : Nat} (V : Mat) (pre : List (Cell m)) : Prop := ∀ x, x ∈ pre → -far x.1.1 x.1.2 ≤ V x.1.1 x.1.2
theorem fitTo_nil {m : Nat} (V : Mat) : FitTo V ([] : List (Cell m)) := fun x h => by cases h
theorem fitTo_snoc {m : Nat} {V : Mat} {pre : List (Cell m)} {x : Cell m} (h : FitTo V pre) (hx : -far x.1.1 x.1.2 ≤ V x.1.1 x.1.2) : FitTo V (pre ++ [x]) := by
  intro y hy
  rw [List.mem_append] at hy
  rcases hy with hy | hy
  · exact h y hy
  · have e : y = x := by simpa using hy
    subst e; exact hx
theorem fitTo_all {m : Nat} (h : 0 < m) {V : Mat} (hf : FitTo V (spots h (m * m))) : ∀ i j, i < m → j < m → -far i j ≤ V i j := by
  intro i j hi hj
  refine hf ⟨(i, j), hi, hj⟩ ?_
  rw [← spot_at h hi hj]
  unfold spots
  exact List.mem_map.2 ⟨_, List.mem_range.2 (spot_lt hi hj), rfl⟩
/-- All went well up to k. -/
def AliveTo (m : Nat) (A : Mat) (k : Nat) : Prop := Fits m (cap A) ∧ ∀ x, x < k → Fit m (lev A x) x
theorem aliveTo_all {m : Nat} {A : Mat} (h : AliveTo m A m) : Alive m A := h
theorem aliveTo_succ {m : Nat} {A : Mat} {k : Nat} (h : AliveTo m A k) (hf : Fit m (lev A k) k) : AliveTo m A (k + 1) := by
  refine ⟨h.1, fun x hx => ?_⟩
  rcases Nat.lt_or_ge x k with c | c
  · exact h.2 x c
  · obtain rfl : x = k := by omega
    exact hf
/-- While all goes well up to K the diagonal is 0, and all bounds are in range. -/
theorem lev_goodTo {m : Nat} {A : Mat} {k : Nat} (h : AliveTo m A k) : ∀ K, K ≤ k → K ≤ m → (∀ i, i < m → lev A K i i = 0) ∧ Fits m (lev A K) := by
  intro K
  induction K with
  | zero =>
    intro _ _
    refine ⟨fun i hi => ?_, h.1⟩
    have h1 := h.1 i i hi hi
    have h2 := (cap_le A i i).2
    rw [far_same] at h1 h2
    show cap A i i = 0
    omega
  | succ K ih =>
    intro hK hm
    obtain ⟨d0, fits⟩ := ih (by omega) (by omega)
    have fk := h.2 K (by omega)
    have fits' : Fits m (lev A (K + 1)) := fun i j hi hj => by
      have := fits i j hi hj; have := fk i j hi hj
      show -far i j ≤ min _ _
      omega
    refine ⟨fun i hi => ?_, fits'⟩
    have h1 := fits' i i hi hi
    have h2 := (via_le (lev A K) K i i).1
    rw [d0 i hi] at h2
    rw [far_same] at h1
    show via (lev A K) K i i = 0
    have h3 : -0 ≤ via (lev A K) K i i := h1
    omega
theorem lev_bd {m : Nat} {A : Mat} {k : Nat} (h : AliveTo m A k) (hk : k ≤ m) {i j : Nat} (hi : i < m) (hj : j < m) : -2305843009213693952 ≤ lev A k i j ∧ lev A k i j ≤ 2305843009213693952 := by
  have h1 := (lev_goodTo h k (Nat.le_refl _) hk).2 i j hi hj
  have h2 := Int.le_trans (lev_le_cap A k i j) (cap_le A i j).2
  have h3 := far_nonneg i j
  omega
theorem not_alive_cap {m : Nat} {A : Mat} {i j : Nat} (hi : i < m) (hj : j < m) (h : cap A i j < -far i j) : ¬ Alive m A := fun ha => by
  have := ha.1 i j hi hj; omega
theorem not_alive_sum {m : Nat} {A : Mat} {k i j : Nat} (hk : k < m) (hi : i < m) (hj : j < m) (h : lev A k i k + lev A k k j < -far i j) : ¬ Alive m A := fun ha => by
  have := ha.2 k hk i j hi hj; omega
end Go.Proofs.YtlkbapcienjdcaaDoor

/- A function that goes through several ranges over functions leaves with a mark for each: they are taken up one by one. Nothing of the program stands here. -/
namespace Go.Proofs.YtlkbapcienjdcaaDoor
open Go.RowKit

def mark (D : Nat) : Deferred := { target := .collected D, args := #[] }
/-- The marks' blocks lie from B on, and hold no call. -/
def Marks (B : Nat) (Ds : List Nat) (W : World) : Prop := Ds.Nodup ∧ ∀ D, D ∈ Ds → B ≤ D ∧ W.heap[D]? = some (.deferred (some []))
theorem marks_nil (B : Nat) (W : World) : Marks B [] W := ⟨List.nodup_nil, fun D h => by cases h⟩
theorem Marks.lt {B : Nat} {Ds : List Nat} {W : World} (h : Marks B Ds W) {D : Nat} (hD : D ∈ Ds) : D < W.heap.size := (Array.getElem?_eq_some_iff.1 (h.2 D hD).2).1
theorem Marks.keep {B : Nat} {Ds : List Nat} {W W' : World} (h : Marks B Ds W) (hk : KeepsFrom B W W') : Marks B Ds W' := ⟨h.1, fun D hD => ⟨(h.2 D hD).1, hk.same D _ (h.2 D hD).1 (h.2 D hD).2 rfl⟩⟩
theorem Marks.cons {B D : Nat} {Ds : List Nat} {W : World} (h : Marks B Ds W) (hB : B ≤ D) (hD : W.heap[D]? = some (.deferred (some []))) (hn : ∀ D', D' ∈ Ds → D' ≠ D) : Marks B (D :: Ds) W := by
  refine ⟨List.nodup_cons.2 ⟨fun hm => hn D hm rfl, h.1⟩, fun D' hD' => ?_⟩
  rcases List.mem_cons.1 hD' with rfl | hm
  · exact ⟨hB, hD⟩
  · exact h.2 D' hm
theorem leaves_marks {F : Fence} {n : Nat} {P : Program} {fn : Func} {tmps : Array Value} {R : Ending → World → Prop} {B : Nat} : ∀ (Ds : List Nat) (W : World), B ≤ W.heap.size → Marks B Ds W → (∀ W', Below B W W' → LeavesInM F n P fn tmps R [] .returning W') → LeavesInM F n P fn tmps R (Ds.map mark) .returning W := by
  intro Ds
  induction Ds with
  | nil => intro W _ _ h; exact h W (Below.refl _ _)
  | cons D Ds ih =>
    intro W hBW hM h
    have hD := (hM.2 D (by simp)).2
    have hb : Below B W (W.putObj D (.deferred none)) := (Below.refl B W).grown (grownBy_putObj' W D (.deferred none)) hBW (fun r e => by cases e; exact (hM.2 D (by simp)).1)
    refine ⟨by simp, .inl ⟨D, _, rfl, run_takeDeferred hD, ?_⟩⟩
    refine ih _ (Nat.le_trans hBW hb.size) ⟨(List.nodup_cons.1 hM.1).2, fun D' hD' => ⟨(hM.2 D' (by simp [hD'])).1, ?_⟩⟩ (fun W' hW' => h W' (hb.trans hW'))
    have hne : D' ≠ D := fun e => (List.nodup_cons.1 hM.1).1 (e ▸ hD')
    exact (World.putObj_heap_other (fun e => hne (by rw [e]))).trans (hM.2 D' (by simp [hD'])).2
end Go.Proofs.YtlkbapcienjdcaaDoor

/- The contract of settle: a row of bounds, closed in place; or the bottom, if no point is left. -/
namespace Go.Proofs.YtlkbapcienjdcaaDoor
open Go.RowKit Go.Shelf
attribute [local go_sem] Oper.semAt_some
attribute [local go_sem ↓] Go.wp_at_zero Go.wp_at_succ

/-- The blocks of settle: the zone's box, the result's, and the row that is worked on; nothing else of what was there has changed. -/
def Settling (w : World) (base g L cap zb rb : Nat) (p r1 r2 : Value) (xs : List Int) (W : World) : Prop :=
  Duo W zb 39 p (.slice (some ⟨g, 0, none⟩) L cap) ∧ Duo W rb 39 r1 r2 ∧ W.ownsRow base 3 1 (.slice (some ⟨g, 0, none⟩) L cap) L (xs.map (Value.int .i64)) ∧ w.grownBy W (some g)
theorem Settling.below {w W W1 : World} {base g L cap zb rb : Nat} {p r1 r2 : Value} {xs : List Int} (h : Settling w base g L cap zb rb p r1 r2 xs W) (hb : Below W.heap.size W W1) : Settling w base g L cap zb rb p r1 r2 xs W1 :=
  ⟨h.1.below hb, h.2.1.below hb, own_kept_below h.2.2.1 hb, grown_below h.2.2.2 hb⟩
theorem Settling.drew {w W : World} {base g L cap zb rb : Nat} {p r1 r2 : Value} {xs : List Int} (h : Settling w base g L cap zb rb p r1 r2 xs W) : Settling w base g L cap zb rb p r1 r2 xs W.drew :=
  ⟨h.1, h.2.1, h.2.2.1, grown_drew h.2.2.2⟩
theorem Settling.low {w W W1 : World} {base g L cap zb rb : Nat} {p r1 r2 : Value} {xs ys : List Int} (h : Settling w base g L cap zb rb p r1 r2 xs W) (n1 : zb ≠ g) (n2 : rb ≠ g) (ho : W1.ownsRow base 3 1 (.slice (some ⟨g, 0, none⟩) L cap) L (ys.map (Value.int .i64))) (hg : W.grownBy W1 (some g)) : Settling w base g L cap zb rb p r1 r2 ys W1 :=
  ⟨h.1.kept hg (by simpa using n1), h.2.1.kept hg (by simpa using n2), ho, grown_grown h.2.2.2 hg⟩
theorem grown_from {w X Y : World} {row : Option Nat} {g B : Nat} (h : w.grownBy X (some g)) (hg : X.grownBy Y row) (hB : w.heap.size ≤ B) (hr : ∀ r, row = some r → B ≤ r) : w.grownBy Y (some g) :=
  ⟨hg.os.trans h.os, hg.tape.trans h.tape, hg.output.trans h.output, Nat.le_trans h.size hg.size, fun k hk hne => (hg.block k (Nat.lt_of_lt_of_le hk h.size) (fun e => by have := hr k e.symm; omega)).trans (h.block k hk hne)⟩
theorem settling_own {α : Type} {w : World} {base g L cap zb rb : Nat} {p r1 r2 : Value} (f : α → List Int) (B : Nat) (hB : w.heap.size ≤ B) : OwnFrom B (fun (s : α) W => Settling w base g L cap zb rb p r1 r2 (f s) W) := by
  intro s X Y row h hg hr
  have hr' : ∀ r, row = some r → ∃ o : Obj, X.heap[r]? = some o ∧ o.isCells = false := fun r e => (hr r e).2
  exact ⟨cells_own h.1 hg hr', cells_own h.2.1 hg hr', row_own h.2.2.1 hg hr', grown_from h.2.2.2 hg hB (fun r e => (hr r e).1)⟩

theorem at_own {m i j g cap base : Nat} {C : Mat} (hm7 : m ≤ 7) (hi : i < m) (hj : j < m) {W : World} (hown : W.ownsRow base 3 1 (.slice (some ⟨g, 0, none⟩) (m * m) cap) (m * m) ((flatL m C).map (Value.int .i64))) :
    Calls Tryd.prog 53 #[zoneV ((m : Int) - 1) (some ⟨g, 0, none⟩) (m * m) cap, .int .i64 (i : Int), .int .i64 (j : Int)] W (ZRetInt (C i j) W) := by
  obtain ⟨e1, e2, e3, e4⟩ := spot_num hm7 hi hj
  have hc := hown.cellAt (i * m + j) (by omega)
  rw [List.getElem?_map, flat_at C hi hj] at hc
  exact at_any ((m : Int) - 1) i j g 0 (m * m) cap (i * m + j) _ W (by omega) (by omega) (by omega) e1 ⟨e2, e3⟩ e4 (hown.lt g rfl).2 (by rw [Nat.zero_add]; exact hc)
theorem upTo_last {m : Nat} (A B : Mat) (pre : List (Cell m)) (x : Cell m) : upTo A B (pre ++ [x]) x.1.1 x.1.2 = B x.1.1 x.1.2 := by unfold upTo; rw [seen_snoc]; simp
/-- It was found that no point is left. -/
def Gone (m : Nat) (A : Mat) (w : World) (g rb : Nat) (c : Code) (W : World) : Prop := c = .ret ∧ ¬ Alive m A ∧ Duo W rb 39 (.int .i64 ((m : Int) - 1)) (.slice none 0 0) ∧ w.grownBy W (some g)
theorem gone_own {α : Type} (m : Nat) (A : Mat) (w : World) (g rb B : Nat) (hB : w.heap.size ≤ B) (c : Code) : OwnFrom B (fun (_ : α) W => Gone m A w g rb c W) := by
  intro s X Y row h hg hr
  exact ⟨h.1, h.2.1, cells_own h.2.2.1 hg (fun r e => (hr r e).2), grown_from h.2.2.2 hg hB (fun r e => (hr r e).1)⟩
theorem cap_step {m : Nat} {A : Mat} {pre : List (Cell m)} {base g cap : Nat} {W : World} (x : Cell m) (h : W.ownsRow base 3 1 (.slice (some ⟨g, 0, none⟩) (m * m) cap) (m * m) (((flatL m (upTo A (Go.Proofs.YtlkbapcienjdcaaDoor.cap A) pre)).set (x.1.1 * m + x.1.2) (min (upTo A (Go.Proofs.YtlkbapcienjdcaaDoor.cap A) pre x.1.1 x.1.2) (far x.1.1 x.1.2))).map (Value.int .i64))) :
    W.ownsRow base 3 1 (.slice (some ⟨g, 0, none⟩) (m * m) cap) (m * m) ((flatL m (upTo A (Go.Proofs.YtlkbapcienjdcaaDoor.cap A) (pre ++ [x]))).map (Value.int .i64)) := by
  rw [flat_set _ x.2.2, upTo_cap, flat_congr (upTo_step _ _ _ _)] at h
  exact h
theorem kept_grown {cb g : Nat} {W W1 : World} (hg : W.grownBy W1 (some g)) (hc : cb < W.heap.size) (hne : cb ≠ g) : CellKept cb W W1 := World.cell?_of_block (a := ⟨cb, 0, none⟩) (hg.block cb hc (by simpa using hne))
theorem kept_below {cb : Nat} {W W1 : World} (hb : Below W.heap.size W W1) (hc : cb < W.heap.size) : CellKept cb W W1 := hb.cell (p := ⟨cb, 0, none⟩) hc
theorem keeps_row {W W' : World} {base g n cap : Nat} {e : TypeId} {size : Nat} {xs : List Value} (hr : W.ownsRow base e size (.slice (some ⟨g, 0, none⟩) n cap) n xs) (hg : W.grownBy W' (some g)) (B : Nat) : KeepsFrom B W W' := keeps_own hr hg B

theorem via_step {m k : Nat} {L : Mat} {pre : List (Cell m)} {base g cap : Nat} {W : World} (x : Cell m) (h : W.ownsRow base 3 1 (.slice (some ⟨g, 0, none⟩) (m * m) cap) (m * m) (((flatL m (upTo L (via L k) pre)).set (x.1.1 * m + x.1.2) (min (upTo L (via L k) pre x.1.1 x.1.2) (L x.1.1 k + L k x.1.2))).map (Value.int .i64))) :
    W.ownsRow base 3 1 (.slice (some ⟨g, 0, none⟩) (m * m) cap) (m * m) ((flatL m (upTo L (via L k) (pre ++ [x]))).map (Value.int .i64)) := by
  rw [flat_set _ x.2.2, upTo_via, flat_congr (upTo_step _ _ _ _)] at h
  exact h
theorem marks_own {α : Type} {B B2 : Nat} {Ds : List Nat} (hlt : ∀ D, D ∈ Ds → D < B2) : OwnFrom B2 (fun (_ : α) W => Marks B Ds W) := by
  intro s X Y row h hg hr
  refine ⟨h.1, fun D hD => ⟨(h.2 D hD).1, (hg.block D (h.lt hD) (fun e => ?_)).trans (h.2 D hD).2⟩⟩
  have := (hr D e.symm).1
  have := hlt D hD
  omega
theorem boxed_own3 {α : Type} {b B : Nat} {t : TypeId} {v : Value} : OwnFrom B (fun (_ : α) W => Boxed W b t v) := fun _ _ _ _ h hg hr => cells_own h hg (fun r e => (hr r e).2)

/-- Between two variables that are taken on the way. -/
def Ways (w : World) (m : Nat) (A : Mat) (g cap base : Nat) (a : Act) (W : World) : Prop :=
  ∃ (k : Nat) (Ds : List Nat) (u5 u37 u38 u39 u40 u41 u67 : Value), k ≤ m ∧ a = { tmps := #[zoneV ((m : Int) - 1) (some ⟨g, 0, none⟩) (m * m) cap, .pointer (some ⟨w.heap.size, 0, none⟩), .pointer (some ⟨w.heap.size + 1, 0, none⟩), undef, undef, u5, undef, undef, undef, .pointer (some ⟨w.heap.size, 0, none⟩), .int .i64 ((m : Int) - 1), .func (.func 69) #[] #[.pointer (some ⟨w.heap.size + 1 + 1, 0, none⟩)], undef, undef, undef, undef, undef, undef, undef, undef, undef, undef, undef, undef, undef, undef, undef, undef, undef, undef, undef, undef, undef, .pointer (some ⟨w.heap.size, 0, none⟩), .int .i64 ((m : Int) - 1), .int .i64 m, .int .i64 (k : Int), u37, u38, u39, u40, u41, undef, undef, undef, undef, undef, undef, undef, undef, undef, undef, undef, undef, undef, undef, undef, undef, undef, undef, undef, undef, undef, undef, undef, undef, undef, u67, undef], defers := Ds.map mark } ∧
    Marks (w.heap.size + 1 + 1) Ds W ∧ Settling w base g (m * m) cap w.heap.size (w.heap.size + 1) (.int .i64 ((m : Int) - 1)) (.int .i64 0) (.slice none 0 0) (flatL m (lev A k)) W ∧ AliveTo m A k ∧ w.heap.size + 1 + 1 ≤ W.heap.size
/-- What settle hands back: the same row, closed; or the bottom, where no point is left. -/
def RetSettle (w : World) (m : Nat) (A : Mat) (g cap base : Nat) (e : Ending) (w' : World) : Prop :=
  (Alive m A ∧ e = .returned (.agg #[.int .i64 ((m : Int) - 1), .slice (some ⟨g, 0, none⟩) (m * m) cap]) ∧ w'.ownsRow base 3 1 (.slice (some ⟨g, 0, none⟩) (m * m) cap) (m * m) ((flatL m (lev A m)).map (Value.int .i64)) ∧ w.grownBy w' (some g)) ∨
  (¬ Alive m A ∧ e = .returned (.agg #[.int .i64 ((m : Int) - 1), .slice none 0 0]) ∧ w.grownBy w' (some g))

theorem grown_low {w W W' : World} {g B : Nat} (h : w.grownBy W (some g)) (hb : Below B W W') (hB : w.heap.size ≤ B) : w.grownBy W' (some g) :=
  ⟨hb.os.trans h.os, hb.tape.trans h.tape, hb.output.trans h.output, Nat.le_trans h.size hb.size, fun k hk hne => (hb.block k (Nat.lt_of_lt_of_le hk hB)).trans (h.block k hk hne)⟩
theorem settle_gone {w W : World} {m g cap base : Nat} {A : Mat} {Ds : List Nat} {tmps : Array Value} (hcW : w.heap.size + 1 + 1 ≤ W.heap.size) (hM : Marks (w.heap.size + 1 + 1) Ds W) (hna : ¬ Alive m A) (hR : Duo W (w.heap.size + 1) 39 (.int .i64 ((m : Int) - 1)) (.slice none 0 0)) (hG : w.grownBy W (some g))
    (ht : tmps.getD 2 undef = .pointer (some ⟨w.heap.size + 1, 0, none⟩)) : LeavesInM Fence.wide 3 Tryd.prog Tryd.f47 tmps (RetSettle w m A g cap base) (Ds.map mark) .returning W := by
  refine leaves_marks (B := w.heap.size + 1 + 1) Ds W hcW hM (fun W' hb => ?_)
  have hR' : Duo W' (w.heap.size + 1) 39 (.int .i64 ((m : Int) - 1)) (.slice none 0 0) := (hb.block _ (by omega)).trans hR
  have r0 := hR'.cell0
  have r1 := hR'.cell1
  simp at ht
  refine ⟨.agg #[.int .i64 ((m : Int) - 1), .slice none 0 0], ?_, .inr ⟨hna, rfl, grown_low hG hb (by omega)⟩⟩
  simp [results, Tryd.results47, go_sem, ht, r0, r1]
theorem settle_fine {w W : World} {m g cap base : Nat} {A : Mat} {Ds : List Nat} {tmps : Array Value} (hgw : g < w.heap.size) (hcW : w.heap.size + 1 + 1 ≤ W.heap.size) (hM : Marks (w.heap.size + 1 + 1) Ds W) (ha : Alive m A) (hR : Duo W (w.heap.size + 1) 39 (.int .i64 ((m : Int) - 1)) (.slice (some ⟨g, 0, none⟩) (m * m) cap))
    (hO : W.ownsRow base 3 1 (.slice (some ⟨g, 0, none⟩) (m * m) cap) (m * m) ((flatL m (lev A m)).map (Value.int .i64))) (hG : w.grownBy W (some g))
    (ht : tmps.getD 2 undef = .pointer (some ⟨w.heap.size + 1, 0, none⟩)) : LeavesInM Fence.wide 3 Tryd.prog Tryd.f47 tmps (RetSettle w m A g cap base) (Ds.map mark) .returning W := by
  refine leaves_marks (B := w.heap.size + 1 + 1) Ds W hcW hM (fun W' hb => ?_)
  have hR' : Duo W' (w.heap.size + 1) 39 (.int .i64 ((m : Int) - 1)) (.slice (some ⟨g, 0, none⟩) (m * m) cap) := (hb.block _ (by omega)).trans hR
  have r0 := hR'.cell0
  have r1 := hR'.cell1
  simp at ht
  have hO' : W'.ownsRow base 3 1 (.slice (some ⟨g, 0, none⟩) (m * m) cap) (m * m) ((flatL m (lev A m)).map (Value.int .i64)) := by
    refine ⟨hO.1, ?_⟩
    rcases hO.2 with h | ⟨g', cap', cur, h1, h2, h3, h4⟩
    · exact .inl h
    · refine .inr ⟨g', cap', cur, h1, h2, (hb.block g' ?_).trans h3, h4⟩
      simp at h1
      omega
  refine ⟨.agg #[.int .i64 ((m : Int) - 1), .slice (some ⟨g, 0, none⟩) (m * m) cap], ?_, .inl ⟨ha, rfl, hO', grown_low hG hb (by omega)⟩⟩
  simp [results, Tryd.results47, go_sem, ht, r0, r1]

set_option maxRecDepth 100000 in
set_option maxHeartbeats 4000000 in
theorem settle_any (m : Nat) (hm7 : m ≤ 7) (h0m : 0 < m) (A : Mat) (g cap base : Nat) (w : World) (hA : ∀ i j, i < m → j < m → -9223372036854775808 ≤ A i j ∧ A i j ≤ 9223372036854775807)
    (hown : w.ownsRow base 3 1 (.slice (some ⟨g, 0, none⟩) (m * m) cap) (m * m) ((flatL m A).map (Value.int .i64))) :
    Calls Tryd.prog 47 #[zoneV ((m : Int) - 1) (some ⟨g, 0, none⟩) (m * m) cap] w (RetSettle w m A g cap base) := by
  have hg := (hown.lt g rfl).2
  have HO := Lib.hid hown
  have HA := Lib.hid hA
  have hN : m * m ≤ 49 := by
    have h1 : m * m ≤ 7 * 7 := Nat.mul_le_mul hm7 hm7
    omega
  have HN := Lib.hid hN
  clear hown hA hN
  refine (callsIn_wide (n := 3)).1 ?_
  refine callsIn_of_wp_marks Tryd.func47 rfl trivial ?_ rfl
  simp only [Tryd.ntmps47, List.size_toArray, List.length_cons, List.length_nil, Nat.reduceAdd, Nat.reduceSub, Array.replicate_succ, Array.replicate_zero, List.push_toArray, List.append_toArray, List.nil_append, List.cons_append]
  refine wpIn_wide.2 ?_
  go_wp2_with (go_at_call 51; ((with_reducible refine (cells_any _ _).mono ?_); rintro e w2 ⟨rfl, rfl⟩))
  have HBot := Lib.hid (show botN ((m : Int) - 1) = (m : Int) - 1 from by unfold botN; rw [if_pos ((mayB_iff _).2 ⟨by omega, by omega⟩)])
  have hI0 : Settling w base g (m * m) cap w.heap.size (w.heap.size + 1) (.int .i64 ((m : Int) - 1)) (.int .i64 0) (.slice none 0 0) (flatL m (upTo A (Go.Proofs.YtlkbapcienjdcaaDoor.cap A) ([] : List (Cell m)))) (((w.alloc (.cells #[.int .i64 ((m : Int) - 1), .slice (some ⟨g, 0, none⟩) (m * m) cap] 39)).alloc (.cells #[.int .i64 0, .slice none 0 0] 39)).alloc (.cells #[.int .i64 ((m : Int) - 1)] 3)) := by
    rw [upTo_nil]
    refine ⟨((Duo.new w _ _ _).alloc _).alloc _, ?_, ((HO.out.alloc _).alloc _).alloc _, ((((Below.refl _ w).alloc (Nat.le_refl _) _).alloc (by simp) _).alloc (by simp; omega) _) |> fun h => grown_below (World.grownBy.refl w (some g)) h⟩
    have h := Duo.new (w.alloc (.cells #[.int .i64 ((m : Int) - 1), .slice (some ⟨g, 0, none⟩) (m * m) cap] 39)) 39 (.int .i64 0) (.slice none 0 0)
    rw [World.size_alloc] at h
    exact h.alloc _
  have hcb := Boxed.new ((w.alloc (.cells #[.int .i64 ((m : Int) - 1), .slice (some ⟨g, 0, none⟩) (m * m) cap] 39)).alloc (.cells #[.int .i64 0, .slice none 0 0] 39)) 3 (.int .i64 ((m : Int) - 1))
  simp only [World.size_alloc] at hcb
  refine (wpIn_wide (n := 3)).1 ?_
  refine wpIn_rangeFunc_ownG rfl (by omega) (gf := 69) (lb := #[.pointer (some ⟨w.heap.size + 1 + 1, 0, none⟩)]) rfl trivial (enters_of Tryd.func69 (by kernel_rfl) rfl)
    (cells_stops Fence.wide 2 trivial rfl (by omega) (w.heap.size + 1 + 1) m hm7 h0m _ (by simp) hcb.cell) cellKept_t (cellKept_b (by simp)) (Below.refl _ _) (fun _ => rfl)
    (fun pre W => Settling w base g (m * m) cap w.heap.size (w.heap.size + 1) (.int .i64 ((m : Int) - 1)) (.int .i64 0) (.slice none 0 0) (flatL m (upTo A (Go.Proofs.YtlkbapcienjdcaaDoor.cap A) pre)) W ∧ FitTo (Go.Proofs.YtlkbapcienjdcaaDoor.cap A) pre ∧ w.heap.size + 1 + 1 < W.heap.size)
    (fun c _ W => Gone m A w g (w.heap.size + 1) c W)
    (OwnFrom.and (settling_own (fun pre => flatL m (upTo A (Go.Proofs.YtlkbapcienjdcaaDoor.cap A) pre)) _ (by simp; omega)) (fun _ _ _ _ h hg _ => ⟨h.1, Nat.lt_of_lt_of_le h.2 hg.size⟩)) (gone_own m A w g _ _ (by simp; omega)) ⟨hI0, fitTo_nil _, by simp⟩
    (fun x => { tmps := #[zoneV ((m : Int) - 1) (some ⟨g, 0, none⟩) (m * m) cap, .pointer (some ⟨w.heap.size, 0, none⟩), .pointer (some ⟨w.heap.size + 1, 0, none⟩), .int .i64 (x.1.1 : Int), .int .i64 (x.1.2 : Int), undef, undef, undef, undef, .pointer (some ⟨w.heap.size, 0, none⟩), .int .i64 ((m : Int) - 1), .func (.func 69) #[] #[.pointer (some ⟨w.heap.size + 1 + 1, 0, none⟩)], .int .i64 (x.1.1 : Int), .int .i64 (x.1.2 : Int), undef, undef, undef, undef, undef, undef, undef, undef, undef, undef, undef, undef, undef, undef, undef, undef, undef, undef, undef, undef, undef, undef, undef, undef, undef, undef, undef, undef, undef, undef, undef, undef, undef, undef, undef, undef, undef, undef, undef, undef, undef, undef, undef, undef, undef, undef, undef, undef, undef, undef, undef, undef, undef, undef, undef], defers := [] }) ?assign ?body ?done ?stop
  case assign =>
    intro l x W K hK
    gi_wp2
    exact hK
  case body =>
    rintro l pre ⟨⟨i, j⟩, hi, hj⟩ W ⟨hS, hFt, hcW⟩ hlen
    dsimp only at hi hj ⊢
    have hfar := far_nonneg i j
    obtain ⟨B0, hB0⟩ : ∃ B0, B0 = (((w.alloc (.cells #[.int .i64 ((m : Int) - 1), .slice (some ⟨g, 0, none⟩) (m * m) cap] 39)).alloc (.cells #[.int .i64 0, .slice none 0 0] 39)).alloc (.cells #[.int .i64 ((m : Int) - 1)] 3)).heap.size := ⟨_, rfl⟩
    gi_wp2
    refine wpIn_held (S := (fun W' => W'.cell? ⟨w.heap.size, 0, none⟩ = some (.int .i64 ((m : Int) - 1)) ∧ W'.cell? ⟨w.heap.size, 1, none⟩ = some (.slice (some ⟨g, 0, none⟩) (m * m) cap))) (by kernel_rfl) (by kernel_rfl) (by rintro ⟨_, _, h⟩; exact h) ⟨hS.1.cell0, hS.1.cell1⟩ (fun hH0 => ?_)
    simp only [List.size_toArray, List.length_cons, List.length_nil, Nat.reduceAdd, Array.replicate_succ, Array.replicate_zero, List.push_toArray, List.nil_append, List.cons_append]
    refine wpAnyH_take (i := 0) (oi := ⟨some 14, _, _, _, _, _⟩) (v := ?_) rfl (by kernel_rfl) (by kernel_rfl) (by kernel_rfl) (fun _ _ _ h => h) (Or.inl ⟨by rfl, ?_⟩) hH0 ?_
    rotate_left
    · intro w hSw
      try dsimp only at hSw
      go_simp
      try with_reducible rfl
    try simp only [Act.put, List.setIfInBounds_toArray, List.set_cons_zero, List.set_cons_succ]
    refine wpAnyH_take (i := 1) (oi := ⟨some 15, _, _, _, _, _⟩) (v := ?_) rfl (by kernel_rfl) (by kernel_rfl) (by kernel_rfl) (fun _ _ _ h => h) (Or.inl ⟨by rfl, ?_⟩) hH0 ?_
    rotate_left
    · intro w hSw
      try dsimp only at hSw
      go_simp
      try with_reducible rfl
    try simp only [Act.put, List.setIfInBounds_toArray, List.set_cons_zero, List.set_cons_succ]
    refine wpAnyH_take (i := 2) (oi := ⟨some 16, _, _, _, _, _⟩) (v := ?_) rfl (by kernel_rfl) (by kernel_rfl) (by kernel_rfl) (fun _ _ _ h => h) (Or.inl ⟨by rfl, ?_⟩) hH0 ?_
    rotate_left
    · intro w hSw
      try dsimp only at hSw
      go_simp
      try with_reducible rfl
    try simp only [Act.put, List.setIfInBounds_toArray, List.set_cons_zero, List.set_cons_succ]
    refine wpAnyH_take (i := 3) (oi := ⟨some 17, _, _, _, _, _⟩) (v := ?_) rfl (by kernel_rfl) (by kernel_rfl) (by kernel_rfl) (fun _ _ _ h => h) (Or.inl ⟨by rfl, ?_⟩) hH0 ?_
    rotate_left
    · intro w hSw
      try dsimp only at hSw
      go_simp
      try with_reducible rfl
    try simp only [Act.put, List.setIfInBounds_toArray, List.set_cons_zero, List.set_cons_succ]
    refine wpAnyH_take (i := 4) (oi := ⟨some 18, _, _, _, _, _⟩) (v := ?_) rfl (by kernel_rfl) (by kernel_rfl) (by kernel_rfl) (fun _ _ _ h => h) (Or.inl ⟨by rfl, ?_⟩) hH0 ?_
    rotate_left
    · intro w hSw
      try dsimp only at hSw
      go_simp
      try with_reducible rfl
    try simp only [Act.put, List.setIfInBounds_toArray, List.set_cons_zero, List.set_cons_succ]
    refine wpAnyH_ready (rs := [5]) (by kernel_rfl) (by simp) ?_
    refine (AllReadyH.cons (o := ⟨some 19, _, _, _, _, _⟩) rfl (fun K hK => ?_) AllReadyH.nil)
    go_simp
    refine (far_any i j (by omega) (by omega) _).mono ?_
    rintro e w' ⟨rfl, rfl⟩
    go_wp2_with fail
    refine hK.out _ _ (⟨hS.1.cell0, hS.1.cell1⟩) (fun hH1 => ?_)
    clear hK K
    try simp only [List.setIfInBounds_toArray, List.set_cons_zero, List.set_cons_succ]
    refine wpAnyH_ready (rs := [6]) (by kernel_rfl) (by simp) ?_
    refine (AllReadyH.cons (o := ⟨some 20, _, _, _, _, _⟩) rfl (fun K hK => ?_) AllReadyH.nil)
    go_simp
    refine (lower_any m i j hm7 hi hj g cap base _ _ _ _ hS.drew.2.2.1 (flat_at _ hi hj)).mono ?_
    rintro e W1 ⟨⟨v, rfl⟩, ho1, hg1⟩
    have hg1' : W.grownBy W1 (some g) := ⟨hg1.os, hg1.tape, hg1.output, hg1.size, hg1.block⟩
    have hS1 := hS.low (by omega) (by omega) (cap_step ⟨(i, j), hi, hj⟩ ho1) hg1'
    go_wp2_with fail
    refine hK.out _ _ (⟨hS1.1.cell0, hS1.1.cell1⟩) (fun hH2 => ?_)
    clear hK K
    try simp only [List.setIfInBounds_toArray, List.set_cons_zero, List.set_cons_succ]
    refine wpAnyH_done (by kernel_rfl) ?_ _
    have KA := at_own hm7 hi hj hS1.2.2.1
    rw [upTo_last A (Go.Proofs.YtlkbapcienjdcaaDoor.cap A) pre ⟨(i, j), hi, hj⟩] at KA
    dsimp only at KA
    have HKA := Lib.hid KA
    have c0 := hS1.1.cell0
    have c1 := hS1.1.cell1
    have hk1 : KeepsFrom B0 W W1 := keeps_row hS.2.2.1 hg1' B0
    have hkc : CellKept (w.heap.size + 1 + 1) W W1 := kept_grown hg1' hcW (by omega)
    clear KA hH0 hH1 hH2 ho1 hg1
    by_cases hlt : Go.Proofs.YtlkbapcienjdcaaDoor.cap A i j < -far i j
    · gi_wp2_with (first
        | (refine ⟨trivial, ?_⟩; gi_at_call 53; refine (CallsIn.inRound l (callsIn_wide.2 HKA.out)).mono ?_; rintro e W2 ⟨rfl, hb2⟩; have hS2 := hS1.below hb2; have hk2 := hk1.trans (keeps_below hb2 B0); have e0 := hS2.1.cell0)
        | (refine ⟨trivial, ?_⟩; gi_at_call 41; refine (CallsIn.inRound l (callsIn_wide.2 (far_any i j (by omega) (by omega) _))).mono ?_; rintro e w' ⟨rfl, rfl⟩)
        | (refine ⟨trivial, ?_⟩; gi_at_call 20; refine (CallsIn.inRound l (callsIn_wide.2 (bottom_any _ _))).mono ?_; rintro e W3 ⟨rfl, hb3⟩; have hS3 := hS2.below hb3; have hk3 := hk2.trans (keeps_below hb3 B0); have d0 := hS3.2.1.cell0; have d1 := hS3.2.1.cell1; have f0 := hS3.2.1.frozen0; have f1 := hS3.2.1.frozen1))
      subst hB0
      rw [HBot.out]
      have hk4 := (hk3.trans (keeps_setCell W3 ⟨w.heap.size + 1, 0, none⟩ (.int .i64 ((m : Int) - 1)) _)).trans (keeps_setCell _ ⟨w.heap.size + 1, 1, none⟩ (.slice none 0 0) _)
      have hg4 := grown_from (B := w.heap.size) (grown_from (B := w.heap.size) hS3.2.2.2 (duo_grown_setCell W3 ⟨w.heap.size + 1, 0, none⟩ (.int .i64 ((m : Int) - 1))) (Nat.le_refl _) (fun r e => by cases e; simp)) (duo_grown_setCell _ ⟨w.heap.size + 1, 1, none⟩ (.slice none 0 0)) (Nat.le_refl _) (fun r e => by cases e; simp)
      exact (⟨hk4, rfl, not_alive_cap hi hj hlt, (hS3.2.1.set0 _).set1 _, hg4⟩ : KeepsFrom _ _ _ ∧ Gone m A w g (w.heap.size + 1) .ret _)
    · have hlt' : decide (Go.Proofs.YtlkbapcienjdcaaDoor.cap A i j < -far i j) = false := decide_eq_false hlt
      gi_wp2_with (first
        | (refine ⟨trivial, ?_⟩; gi_at_call 53; refine (CallsIn.inRound l (callsIn_wide.2 HKA.out)).mono ?_; rintro e W2 ⟨rfl, hb2⟩; have hS2 := hS1.below hb2; have hk2 := hk1.trans (keeps_below hb2 B0); have hkc2 : CellKept (w.heap.size + 1 + 1) W W2 := cellKept_t hkc (kept_below hb2 (Nat.lt_of_lt_of_le hcW hg1'.size)))
        | (refine ⟨trivial, ?_⟩; gi_at_call 41; refine (CallsIn.inRound l (callsIn_wide.2 (far_any i j (by omega) (by omega) _))).mono ?_; rintro e w' ⟨rfl, rfl⟩))
      subst hB0
      exact (⟨hk2, hkc2, hS2, fitTo_snoc (x := ⟨(i, j), hi, hj⟩) hFt (show -far i j ≤ Go.Proofs.YtlkbapcienjdcaaDoor.cap A i j by omega), Nat.lt_of_lt_of_le hcW hk2.size⟩ : KeepsFrom _ _ _ ∧ CellKept _ _ _ ∧ Settling _ _ _ _ _ _ _ _ _ _ _ _ ∧ FitTo _ _ ∧ _)
  case done =>
    rintro D ys W hD rfl ⟨hS, hFt, hcW⟩ hK
    rw [flat_congr (upTo_all h0m A (Go.Proofs.YtlkbapcienjdcaaDoor.cap A))] at hS
    have c0 := hS.1.cell0
    go_wp2_with fail
    refine wp_loop (Ways w m A g cap base) (fun a _ => m - (intOf (a.tmps.getD 36 undef)).toNat) ?h0 ?round
    case h0 => exact ⟨0, [D], _, _, _, _, _, _, _, Nat.zero_le _, rfl, (marks_nil _ _).cons (by simp at hD; omega) hK (fun D' h => by cases h), hS, ⟨fitTo_all h0m hFt, fun x hx => absurd hx (Nat.not_lt_zero _)⟩, by omega⟩
    case round =>
      clear hI0 hcb hS hFt hcW hK hD c0
      rintro a WK ⟨k, Ds, u5, u37, u38, u39, u40, u41, u67, hk, rfl, hM, hS, hAl, hcW⟩
      have c0 := hS.1.cell0
      have l0 := hS.1.lt
      by_cases hkm : k < m
      · have kd : decide ((k : Int) < m) = true := decide_eq_true (by omega)
        have HM := Lib.hid hM
        have HAl := Lib.hid hAl
        clear hM hAl
        go_wp2_with (go_at_call 51; ((with_reducible refine (cells_any _ _).mono ?_); rintro e w2 ⟨rfl, rfl⟩))
        have hd0 := (lev_goodTo HAl.out k (Nat.le_refl _) hk).1 k hkm
        have HD0 := Lib.hid hd0
        have hMl := fun D (hD : D ∈ Ds) => HM.out.lt hD
        have HMl := Lib.hid hMl
        have hBx := (Boxed.new WK 3 (.int .i64 (k : Int))).alloc (.cells #[.int .i64 ((m : Int) - 1)] 3)
        have hcb2 := Boxed.new (WK.alloc (.cells #[.int .i64 (k : Int)] 3)) 3 (.int .i64 ((m : Int) - 1))
        simp only [World.size_alloc] at hcb2
        have hI2 : Settling w base g (m * m) cap w.heap.size (w.heap.size + 1) (.int .i64 ((m : Int) - 1)) (.int .i64 0) (.slice none 0 0) (flatL m (upTo (lev A k) (via (lev A k) k) ([] : List (Cell m)))) ((WK.alloc (.cells #[.int .i64 (k : Int)] 3)).alloc (.cells #[.int .i64 ((m : Int) - 1)] 3)) := by
          rw [upTo_nil]
          exact (hS.below (zboxed _ _)).below (zboxed _ _)
        have hM2 : Marks (w.heap.size + 1 + 1) Ds ((WK.alloc (.cells #[.int .i64 (k : Int)] 3)).alloc (.cells #[.int .i64 ((m : Int) - 1)] 3)) := (HM.out.keep (keeps_below (zboxed _ _) _)).keep (keeps_below (zboxed _ _) _)
        clear hd0 hMl c0
        refine (wpIn_wide (n := 3)).1 ?_
        refine wpIn_rangeFunc_ownG rfl (by omega) (gf := 69) (lb := #[.pointer (some ⟨WK.heap.size + 1, 0, none⟩)]) rfl trivial (enters_of Tryd.func69 (by kernel_rfl) rfl)
          (cells_stops Fence.wide 2 trivial rfl (by omega) (WK.heap.size + 1) m hm7 h0m _ (by simp) hcb2.cell) cellKept_t (cellKept_b (by simp)) (Below.refl _ _) (fun _ => rfl)
          (fun pre W => (Settling w base g (m * m) cap w.heap.size (w.heap.size + 1) (.int .i64 ((m : Int) - 1)) (.int .i64 0) (.slice none 0 0) (flatL m (upTo (lev A k) (via (lev A k) k) pre)) W ∧ Boxed W WK.heap.size 3 (.int .i64 (k : Int))) ∧ Marks (w.heap.size + 1 + 1) Ds W ∧ (FitTo (fun i j => lev A k i k + lev A k k j) pre ∧ WK.heap.size + 1 < W.heap.size))
          (fun c _ W => Gone m A w g (w.heap.size + 1) c W ∧ Marks (w.heap.size + 1 + 1) Ds W)
          (OwnFrom.and (OwnFrom.and (settling_own (fun pre => flatL m (upTo (lev A k) (via (lev A k) k) pre)) _ (by simp; omega)) boxed_own3) (OwnFrom.and (marks_own (fun D hD => by have := HMl.out D hD; simp; omega)) (fun _ _ _ _ h hg _ => ⟨h.1, Nat.lt_of_lt_of_le h.2 hg.size⟩)))
          (fun c => OwnFrom.and (gone_own m A w g _ _ (by simp; omega) c) (marks_own (fun D hD => by have := HMl.out D hD; simp; omega))) ⟨⟨hI2, hBx⟩, hM2, fitTo_nil _, by simp⟩
          (fun x => { tmps := #[zoneV ((m : Int) - 1) (some ⟨g, 0, none⟩) (m * m) cap, .pointer (some ⟨w.heap.size, 0, none⟩), .pointer (some ⟨w.heap.size + 1, 0, none⟩), undef, undef, .pointer (some ⟨WK.heap.size, 0, none⟩), .int .i64 (x.1.1 : Int), .int .i64 (x.1.2 : Int), undef, .pointer (some ⟨w.heap.size, 0, none⟩), .int .i64 ((m : Int) - 1), .func (.func 69) #[] #[.pointer (some ⟨w.heap.size + 1 + 1, 0, none⟩)], undef, undef, undef, undef, undef, undef, undef, undef, undef, undef, undef, undef, undef, undef, undef, undef, undef, undef, undef, undef, undef, .pointer (some ⟨w.heap.size, 0, none⟩), .int .i64 ((m : Int) - 1), .int .i64 m, .int .i64 (k : Int), .bool true, .int .i64 (k : Int), .pointer (some ⟨w.heap.size, 0, none⟩), .int .i64 ((m : Int) - 1), .func (.func 69) #[] #[.pointer (some ⟨WK.heap.size + 1, 0, none⟩)], .int .i64 (x.1.1 : Int), .int .i64 (x.1.2 : Int), undef, undef, undef, undef, undef, undef, undef, undef, undef, undef, undef, undef, undef, undef, undef, undef, undef, undef, undef, undef, undef, undef, undef, u67, undef], defers := [] }) ?assign2 ?body2 ?done2 ?stop2
        case assign2 =>
          intro l x W K hK
          gi_wp2
          exact hK
        case body2 =>
          clear hI2 hM2 hcb2 hBx
          rintro l pre ⟨⟨i, j⟩, hi, hj⟩ W ⟨⟨hS2, hX2⟩, hMk, hFt, hcW2⟩ hlen
          dsimp only at hi hj ⊢
          have hfar := far_nonneg i j
          have hbi := lev_bd HAl.out hk hi hkm
          have hbj := lev_bd HAl.out hk hkm hj
          have hw : IntKind.i64.wrap (lev A k i k + lev A k k j) = lev A k i k + lev A k k j := IntWalk.i64_in _ (by omega)
          have HK1 := Lib.hid (fun (W' : World) (h : Settling w base g (m * m) cap w.heap.size (w.heap.size + 1) (.int .i64 ((m : Int) - 1)) (.int .i64 0) (.slice none 0 0) (flatL m (upTo (lev A k) (via (lev A k) k) pre)) W') => (by have q := at_own hm7 hi hkm h.2.2.1; rw [upTo_row HD0.out] at q; exact q : Calls Tryd.prog 53 #[zoneV ((m : Int) - 1) (some ⟨g, 0, none⟩) (m * m) cap, .int .i64 (i : Int), .int .i64 (k : Int)] W' (ZRetInt (lev A k i k) W')))
          have HK2 := Lib.hid (fun (W' : World) (h : Settling w base g (m * m) cap w.heap.size (w.heap.size + 1) (.int .i64 ((m : Int) - 1)) (.int .i64 0) (.slice none 0 0) (flatL m (upTo (lev A k) (via (lev A k) k) pre)) W') => (by have q := at_own hm7 hkm hj h.2.2.1; rw [upTo_col HD0.out] at q; exact q : Calls Tryd.prog 53 #[zoneV ((m : Int) - 1) (some ⟨g, 0, none⟩) (m * m) cap, .int .i64 (k : Int), .int .i64 (j : Int)] W' (ZRetInt (lev A k k j) W')))
          obtain ⟨B0, hB0⟩ : ∃ B0, B0 = ((WK.alloc (.cells #[.int .i64 (k : Int)] 3)).alloc (.cells #[.int .i64 ((m : Int) - 1)] 3)).heap.size := ⟨_, rfl⟩
          have hGd : g ≠ w.heap.size ∧ g ≠ w.heap.size + 1 ∧ g ≠ WK.heap.size ∧ g ≠ WK.heap.size + 1 := by omega
          gi_wp2
          refine wpIn_held (S := (fun W' => W'.cell? ⟨w.heap.size, 0, none⟩ = some (.int .i64 ((m : Int) - 1)) ∧ W'.cell? ⟨w.heap.size, 1, none⟩ = some (.slice (some ⟨g, 0, none⟩) (m * m) cap) ∧ W'.cell? ⟨WK.heap.size, 0, none⟩ = some (.int .i64 (k : Int)))) (by kernel_rfl) (by kernel_rfl) (by rintro ⟨_, _, h⟩; exact h) ⟨hS2.1.cell0, hS2.1.cell1, hX2.cell⟩ (fun hH0 => ?_)
          simp only [List.size_toArray, List.length_cons, List.length_nil, Nat.reduceAdd, Array.replicate_succ, Array.replicate_zero, List.push_toArray, List.nil_append, List.cons_append]
          refine wpAnyH_take (i := 0) (oi := ⟨some 44, _, _, _, _, _⟩) (v := ?_) rfl (by kernel_rfl) (by kernel_rfl) (by kernel_rfl) (fun _ _ _ h => h) (Or.inl ⟨by rfl, ?_⟩) hH0 ?_
          rotate_left
          · intro w hSw
            try dsimp only at hSw
            go_simp
            try with_reducible rfl
          try simp only [Act.put, List.setIfInBounds_toArray, List.set_cons_zero, List.set_cons_succ]
          refine wpAnyH_take (i := 1) (oi := ⟨some 45, _, _, _, _, _⟩) (v := ?_) rfl (by kernel_rfl) (by kernel_rfl) (by kernel_rfl) (fun _ _ _ h => h) (Or.inl ⟨by rfl, ?_⟩) hH0 ?_
          rotate_left
          · intro w hSw
            try dsimp only at hSw
            go_simp
            try with_reducible rfl
          try simp only [Act.put, List.setIfInBounds_toArray, List.set_cons_zero, List.set_cons_succ]
          refine wpAnyH_take (i := 2) (oi := ⟨some 46, _, _, _, _, _⟩) (v := ?_) rfl (by kernel_rfl) (by kernel_rfl) (by kernel_rfl) (fun _ _ _ h => h) (Or.inl ⟨by rfl, ?_⟩) hH0 ?_
          rotate_left
          · intro w hSw
            try dsimp only at hSw
            go_simp
            try with_reducible rfl
          try simp only [Act.put, List.setIfInBounds_toArray, List.set_cons_zero, List.set_cons_succ]
          refine wpAnyH_take (i := 4) (oi := ⟨some 48, _, _, _, _, _⟩) (v := ?_) rfl (by kernel_rfl) (by kernel_rfl) (by kernel_rfl) (fun _ _ _ h => h) (Or.inl ⟨by rfl, ?_⟩) hH0 ?_
          rotate_left
          · intro w hSw
            try dsimp only at hSw
            go_simp
            try with_reducible rfl
          try simp only [Act.put, List.setIfInBounds_toArray, List.set_cons_zero, List.set_cons_succ]
          refine wpAnyH_take (i := 5) (oi := ⟨some 49, _, _, _, _, _⟩) (v := ?_) rfl (by kernel_rfl) (by kernel_rfl) (by kernel_rfl) (fun _ _ _ h => h) (Or.inl ⟨by rfl, ?_⟩) hH0 ?_
          rotate_left
          · intro w hSw
            try dsimp only at hSw
            go_simp
            try with_reducible rfl
          try simp only [Act.put, List.setIfInBounds_toArray, List.set_cons_zero, List.set_cons_succ]
          refine wpAnyH_take (i := 6) (oi := ⟨some 50, _, _, _, _, _⟩) (v := ?_) rfl (by kernel_rfl) (by kernel_rfl) (by kernel_rfl) (fun _ _ _ h => h) (Or.inl ⟨by rfl, ?_⟩) hH0 ?_
          rotate_left
          · intro w hSw
            try dsimp only at hSw
            go_simp
            try with_reducible rfl
          try simp only [Act.put, List.setIfInBounds_toArray, List.set_cons_zero, List.set_cons_succ]
          refine wpAnyH_ready (rs := [3]) (by kernel_rfl) (by simp) ?_
          refine (AllReadyH.cons (o := ⟨some 47, _, _, _, _, _⟩) rfl (fun K hK => ?_) AllReadyH.nil)
          go_simp
          refine (HK1.out _ hS2.drew).mono ?_
          rintro e W1 ⟨rfl, hb1⟩
          have hb1' : Below W.heap.size W W1 := ⟨hb1.os, hb1.tape, hb1.output, hb1.size, hb1.block⟩
          have hS3 := hS2.below hb1'
          have hX3 := boxed_below hX2 hb1'
          go_wp2_with fail
          refine hK.out _ _ (⟨hS3.1.cell0, hS3.1.cell1, hX3.cell⟩) (fun hH1 => ?_)
          clear hK K
          try simp only [List.setIfInBounds_toArray, List.set_cons_zero, List.set_cons_succ]
          refine wpAnyH_ready (rs := [7]) (by kernel_rfl) (by simp) ?_
          refine (AllReadyH.cons (o := ⟨some 51, _, _, _, _, _⟩) rfl (fun K hK => ?_) AllReadyH.nil)
          go_simp
          refine (HK2.out _ hS3).mono ?_
          rintro e W4 ⟨rfl, hb4⟩
          have hS4 := hS3.below hb4
          have hX4 := boxed_below hX3 hb4
          go_wp2_with fail
          refine hK.out _ _ (⟨hS4.1.cell0, hS4.1.cell1, hX4.cell⟩) (fun hH2 => ?_)
          clear hK K
          try simp only [List.setIfInBounds_toArray, List.set_cons_zero, List.set_cons_succ]
          refine wpAnyH_take (i := 8) (oi := ⟨some 52, _, _, _, _, _⟩) (v := ?_) rfl (by kernel_rfl) (by kernel_rfl) (by kernel_rfl) (fun _ _ _ h => h) (Or.inl ⟨by rfl, ?_⟩) hH2 ?_
          rotate_left
          · intro w hSw
            try dsimp only at hSw
            go_simp
            try with_reducible rfl
          try simp only [Act.put, List.setIfInBounds_toArray, List.set_cons_zero, List.set_cons_succ]
          refine wpAnyH_take (i := 9) (oi := ⟨some 8, _, _, _, _, _⟩) (v := ?_) rfl (by kernel_rfl) (by kernel_rfl) (by kernel_rfl) (fun _ _ _ h => h) (Or.inl ⟨by rfl, ?_⟩) hH2 ?_
          rotate_left
          · intro w hSw
            try dsimp only at hSw
            go_simp
            try with_reducible rfl
          try simp only [Act.put, List.setIfInBounds_toArray, List.set_cons_zero, List.set_cons_succ]
          refine wpAnyH_done (by kernel_rfl) ?_ _
          have hb14 : Below W.heap.size W W4 := zthen hb1' hb4
          clear hH0 hH1 hH2 hb1 hb1' hb4 HK1 HK2 hS3 hX3
          have c0 := hS4.1.cell0
          have c1 := hS4.1.cell1
          by_cases hlt : lev A k i k + lev A k k j < -far i j
          · gi_wp2_with (first
              | (refine ⟨trivial, ?_⟩; gi_at_call 41; refine (CallsIn.inRound l (callsIn_wide.2 (far_any i j (by omega) (by omega) _))).mono ?_; rintro e w' ⟨rfl, rfl⟩)
              | (refine ⟨trivial, ?_⟩; gi_at_call 20; refine (CallsIn.inRound l (callsIn_wide.2 (bottom_any _ _))).mono ?_; rintro e W5 ⟨rfl, hb5⟩; have hS5 := hS4.below hb5; have hk5 := (keeps_below hb14 B0).trans (keeps_below hb5 B0); have d0 := hS5.2.1.cell0; have d1 := hS5.2.1.cell1; have f0 := hS5.2.1.frozen0; have f1 := hS5.2.1.frozen1))
            subst hB0
            rw [HBot.out]
            have hk6 := (hk5.trans (keeps_setCell W5 ⟨w.heap.size + 1, 0, none⟩ (.int .i64 ((m : Int) - 1)) _)).trans (keeps_setCell _ ⟨w.heap.size + 1, 1, none⟩ (.slice none 0 0) _)
            have hg6 := grown_from (B := w.heap.size) (grown_from (B := w.heap.size) hS5.2.2.2 (duo_grown_setCell W5 ⟨w.heap.size + 1, 0, none⟩ (.int .i64 ((m : Int) - 1))) (Nat.le_refl _) (fun r e => by cases e; simp)) (duo_grown_setCell _ ⟨w.heap.size + 1, 1, none⟩ (.slice none 0 0)) (Nat.le_refl _) (fun r e => by cases e; simp)
            have hm6 : Marks (w.heap.size + 1 + 1) Ds ((W5.setCell ⟨w.heap.size + 1, 0, none⟩ (.int .i64 ((m : Int) - 1))).setCell ⟨w.heap.size + 1, 1, none⟩ (.slice none 0 0)) :=
              (((hMk.keep (keeps_below hb14 _)).keep (keeps_below hb5 _)).keep (keeps_setCell _ _ _ _)).keep (keeps_setCell _ _ _ _)
            exact (⟨hk6, ⟨rfl, not_alive_sum hkm hi hj hlt, (hS5.2.1.set0 _).set1 _, hg6⟩, hm6⟩ : KeepsFrom _ _ _ ∧ Gone m A w g (w.heap.size + 1) .ret _ ∧ _)
          · have hlt' : decide (lev A k i k + lev A k k j < -far i j) = false := decide_eq_false hlt
            gi_wp2_with (first
              | (refine ⟨trivial, ?_⟩; gi_at_call 41; refine (CallsIn.inRound l (callsIn_wide.2 (far_any i j (by omega) (by omega) _))).mono ?_; rintro e w' ⟨rfl, rfl⟩)
              | (refine ⟨trivial, ?_⟩; gi_at_call 46; refine (CallsIn.inRound l (callsIn_wide.2 (lower_any m i j hm7 hi hj g cap base _ _ _ _ hS4.2.2.1 (flat_at _ hi hj)))).mono ?_; rintro e W5 ⟨⟨v, rfl⟩, ho5, hg5⟩))
            subst hB0
            have hk5 := (keeps_below hb14 ((WK.alloc (.cells #[.int .i64 (k : Int)] 3)).alloc (.cells #[.int .i64 ((m : Int) - 1)] 3)).heap.size).trans (keeps_row hS4.2.2.1 hg5 _)
            have hS5 := hS4.low (by omega) (by omega) (via_step ⟨(i, j), hi, hj⟩ ho5) hg5
            have hkc := cellKept_t (kept_below hb14 hcW2) (kept_grown hg5 (Nat.lt_of_lt_of_le hcW2 hb14.size) (fun e => hGd.2.2.2 e.symm))
            exact (⟨hk5, hkc, ⟨hS5, hX4.kept hg5 (by simpa using fun e => hGd.2.2.1 e.symm)⟩, (hMk.keep (keeps_below hb14 _)).keep (keeps_row hS4.2.2.1 hg5 _), fitTo_snoc (x := ⟨(i, j), hi, hj⟩) hFt (show -far i j ≤ lev A k i k + lev A k k j by omega), Nat.lt_of_lt_of_le hcW2 hk5.size⟩ :
              KeepsFrom _ _ _ ∧ CellKept _ _ _ ∧ (Settling _ _ _ _ _ _ _ _ _ _ _ _ ∧ Boxed _ _ _ _) ∧ Marks _ _ _ ∧ FitTo _ _ ∧ _)
        case done2 =>
          rintro D ys W hD rfl ⟨⟨hS2, hX2⟩, hMk, hFt, hcW2⟩ hK2
          rw [flat_congr (upTo_all h0m (lev A k) (via (lev A k) k))] at hS2
          go_wp2_with fail
          refine ⟨⟨k + 1, D :: Ds, _, _, _, _, _, _, _, by omega, rfl, hMk.cons (by simp at hD; omega) hK2 (fun D' h e => by have := HMl.out D' h; simp at hD; omega), hS2, aliveTo_succ HAl.out (fitTo_all h0m hFt), by omega⟩, by simp [intOf]; omega⟩
        case stop2 =>
          rintro D c pre W hD _ ⟨⟨rfl, hna, hR, hG⟩, hMk⟩ hK2
          gi_wp2
          have hD' : w.heap.size + 1 + 1 ≤ D ∧ ∀ D', D' ∈ Ds → D' ≠ D := ⟨by simp at hD; omega, fun D' h e => by have := HMl.out D' h; simp at hD; omega⟩
          exact settle_gone (Ds := D :: Ds) (by have := (Array.getElem?_eq_some_iff.1 hK2).1; omega) (hMk.cons hD'.1 hK2 hD'.2) hna hR hG rfl
      · obtain rfl : k = m := by omega
        have c1 := hS.1.cell1
        have d0 := hS.2.1.cell0
        have d1 := hS.2.1.cell1
        have f0 := hS.2.1.frozen0
        have f1 := hS.2.1.frozen1
        have hm6 := (hM.keep (keeps_setCell WK ⟨w.heap.size + 1, 0, none⟩ (.int .i64 ((k : Int) - 1)) _)).keep (keeps_setCell _ ⟨w.heap.size + 1, 1, none⟩ (.slice (some ⟨g, 0, none⟩) (k * k) cap) _)
        have hg6 := grown_from (B := w.heap.size) (grown_from (B := w.heap.size) hS.2.2.2 (duo_grown_setCell WK ⟨w.heap.size + 1, 0, none⟩ (.int .i64 ((k : Int) - 1))) (Nat.le_refl _) (fun r e => by cases e; simp)) (duo_grown_setCell _ ⟨w.heap.size + 1, 1, none⟩ (.slice (some ⟨g, 0, none⟩) (k * k) cap)) (Nat.le_refl _) (fun r e => by cases e; simp)
        have ho6 := (hS.2.2.1.kept (duo_grown_setCell WK ⟨w.heap.size + 1, 0, none⟩ (.int .i64 ((k : Int) - 1))) (.inr (by simp [Value.ownBlock]; omega))).kept (duo_grown_setCell _ ⟨w.heap.size + 1, 1, none⟩ (.slice (some ⟨g, 0, none⟩) (k * k) cap)) (.inr (by simp [Value.ownBlock]; omega))
        have HE := Lib.hid (⟨hm6, hg6, ho6⟩ : _ ∧ _ ∧ _)
        have HR := Lib.hid ((hS.2.1.set0 (.int .i64 ((k : Int) - 1))).set1 (.slice (some ⟨g, 0, none⟩) (k * k) cap))
        have HAl := Lib.hid hAl
        clear hm6 hg6 ho6 hAl
        go_wp2_with fail
        exact settle_fine hg (by simp; omega) HE.out.1 HAl.out HR.out HE.out.2.2 HE.out.2.1 rfl
  case stop =>
    rintro D c pre W hD _ ⟨rfl, hna, hR, hG⟩ hK
    gi_wp2
    exact settle_gone (Ds := [D]) (by have := (Array.getElem?_eq_some_iff.1 hK).1; simp at hD; omega) ((marks_nil _ _).cons (by simp at hD; omega) hK (fun D' h => by cases h)) hna hR hG rfl
end Go.Proofs.YtlkbapcienjdcaaDoor
