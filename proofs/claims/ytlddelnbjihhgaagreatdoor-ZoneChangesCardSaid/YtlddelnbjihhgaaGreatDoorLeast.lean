/- The contracts of farthest, may, Bottom, none, lower. -/
import Derived.Test.YtlddelnbjihhgaaGreatDoorZBase
import Derived.Test.YtlddelnbjihhgaaGreatDoorFill
import Derived.RegionTactic
import Derived.Lib.MinMax
import Derived.Laws.OwnMore
namespace Go.Proofs.YtlddelnbjihhgaaGreatDoor
open Go.RowKit
attribute [local go_sem ↓] Go.wp_at_zero Go.wp_at_succ

set_option maxHeartbeats 400000 in
theorem far_any (i j : Nat) (hi : i ≤ 6) (hj : j ≤ 6) (w : World) : Calls Tryz.prog 67 #[.int .i64 (i : Int), .int .i64 (j : Int)] w fun e w' => e = .returned (.int .i64 (far i j)) ∧ w = w' := by
  rcases far_cases i j with ⟨h, e⟩ | ⟨h, h2, e⟩ | ⟨h, h2, h3, e⟩
  · rw [e]
    have b1 : ((i : Int) == (j : Int)) = true := by simp; omega
    clear e h
    go_enter Tryz.func67, Tryz.ntmps67
    go_wp2_with fail
    go_ret
    exact ⟨rfl, rfl⟩
  · rw [e]
    have b1 : ((i : Int) == (j : Int)) = false := by simp; omega
    by_cases h0 : i = 0
    · subst h0
      clear e h h2
      go_enter Tryz.func67, Tryz.ntmps67
      go_wp2_with fail
      go_ret
      exact ⟨rfl, rfl⟩
    · obtain rfl : j = 0 := by omega
      have b2 : ((i : Int) == 0) = false := by simp; omega
      clear e h h2
      go_enter Tryz.func67, Tryz.ntmps67
      go_wp2_with fail
      go_ret
      exact ⟨rfl, rfl⟩
  · rw [e]
    have b1 : ((i : Int) == (j : Int)) = false := by simp; omega
    have b2 : ((i : Int) == 0) = false := by simp; omega
    have b3 : ((j : Int) == 0) = false := by simp; omega
    clear e h h2 h3
    go_enter Tryz.func67, Tryz.ntmps67
    go_wp2_with fail
    go_ret
    exact ⟨rfl, rfl⟩

def mayB (n : Int) : Bool := decide (0 ≤ n ∧ n ≤ 6)
theorem mayB_iff (n : Int) : mayB n = true ↔ (0 ≤ n ∧ n ≤ 6) := by unfold mayB; exact decide_eq_true_iff
set_option maxHeartbeats 400000 in
theorem may_any (n : Int) (w : World) : Calls Tryz.prog 66 #[.int .i64 n] w fun e w' => e = .returned (.bool (mayB n)) ∧ w = w' := by
  by_cases h0 : 0 ≤ n
  · by_cases h1 : n ≤ 6
    · rw [(mayB_iff n).2 ⟨h0, h1⟩]
      go_enter Tryz.func66, Tryz.ntmps66
      go_wp2_with fail
      go_ret
      exact ⟨rfl, rfl⟩
    · have e : mayB n = false := by cases h : mayB n; rfl; exact absurd ((mayB_iff n).1 h).2 h1
      rw [e]
      clear e
      go_enter Tryz.func66, Tryz.ntmps66
      go_wp2_with fail
      go_ret
      exact ⟨rfl, rfl⟩
  · have e : mayB n = false := by cases h : mayB n; rfl; exact absurd ((mayB_iff n).1 h).1 h0
    have h2 : decide (0 ≤ n) = false := decide_eq_false h0
    rw [e]
    clear e h0
    go_enter Tryz.func66, Tryz.ntmps66
    go_wp2_with fail
    go_ret
    exact ⟨rfl, rfl⟩

/-- A bottom is handed back. -/
def RetBot (n : Int) (w : World) (e : Ending) (w' : World) : Prop := e = .returned (.agg #[.int .i64 n, .slice none 0 0]) ∧ Below w.heap.size w w'
def botN (n : Int) : Int := if mayB n = true then n else 0
set_option maxHeartbeats 400000 in
theorem bottom_any (n : Int) (w : World) : Calls Tryz.prog 30 #[.int .i64 n] w (RetBot (botN n) w) := by
  unfold botN
  cases h : mayB n
  · simp only [Bool.false_eq_true, if_false]
    go_enter Tryz.func30, Tryz.ntmps30
    go_wp2_with (go_at_call 66; ((with_reducible refine (may_any _ _).mono ?_); rintro e w' ⟨rfl, rfl⟩))
    exact bodyPost_ret (v := .agg #[.int .i64 0, .slice none 0 0]) (by simp [results, Tryz.results30, go_sem]) rfl ⟨rfl, zboxed _ _⟩
  · simp only [if_true]
    go_enter Tryz.func30, Tryz.ntmps30
    go_wp2_with (go_at_call 66; ((with_reducible refine (may_any _ _).mono ?_); rintro e w' ⟨rfl, rfl⟩))
    exact bodyPost_ret (v := .agg #[.int .i64 n, .slice none 0 0]) (by simp [results, Tryz.results30, go_sem]) rfl ⟨rfl, zboxed _ _⟩

set_option maxHeartbeats 400000 in
theorem none_any (n : Int) (A : Option Addr) (len cap : Nat) (w : World) : Calls Tryz.prog 35 #[zoneV n A len cap] w (ZRetBool (decide (len = 0)) w) := by
  by_cases h : len = 0
  · subst h
    go_enter Tryz.func35, Tryz.ntmps35
    go_wp2_with fail
    go_ret
    exact ⟨rfl, zboxed _ _⟩
  · rw [decide_eq_false h]
    have h' : ((len : Int) == 0) = false := by simp; omega
    clear h
    go_enter Tryz.func35, Tryz.ntmps35
    go_wp2_with fail
    go_ret
    exact ⟨rfl, zboxed _ _⟩

theorem below_grown {w w1 w2 : World} {row : Option Nat} (hb : Below w.heap.size w w1) (hg : w1.grownBy w2 row) : w.grownBy w2 row :=
  ⟨hg.os.trans hb.os, hg.tape.trans hb.tape, hg.output.trans hb.output, Nat.le_trans hb.size hg.size, fun k hk hne => (hg.block k (Nat.lt_of_lt_of_le hk hb.size) hne).trans (hb.block k hk)⟩
theorem grown_drew {w w1 : World} {row : Option Nat} (h : w.grownBy w1 row) : w.grownBy w1.drew row := ⟨h.os, h.tape, h.output, h.size, h.block⟩
theorem grown_below {w w1 w2 : World} {row : Option Nat} (hg : w.grownBy w1 row) (hb : Below w1.heap.size w1 w2) : w.grownBy w2 row :=
  ⟨hb.os.trans hg.os, hb.tape.trans hg.tape, hb.output.trans hg.output, Nat.le_trans hg.size hb.size, fun k hk hne => (hb.block k (Nat.lt_of_lt_of_le hk hg.size)).trans (hg.block k hk hne)⟩
theorem grown_grown {w w1 w2 : World} {row : Option Nat} (hg : w.grownBy w1 row) (hb : w1.grownBy w2 row) : w.grownBy w2 row :=
  ⟨hb.os.trans hg.os, hb.tape.trans hg.tape, hb.output.trans hg.output, Nat.le_trans hg.size hb.size, fun k hk hne => (hb.block k (Nat.lt_of_lt_of_le hk hg.size) hne).trans (hg.block k hk hne)⟩
/-- Nothing is handed back; of what was there the row alone has changed. -/
def RetLow (w : World) (base g n cap : Nat) (ys : List Int) (e : Ending) (w' : World) : Prop :=
  (∃ v, e = .returned v) ∧ w'.ownsRow base 3 1 (.slice (some ⟨g, 0, none⟩) n cap) n (ys.map (Value.int .i64)) ∧ w.grownBy w' (some g)
theorem spot_num {m i j : Nat} (hm : m ≤ 7) (hi : i < m) (hj : j < m) : (i : Int) * ((m : Int) - 1 + 1) + j = ((i * m + j : Nat) : Int) ∧ 0 ≤ (i : Int) * ((m : Int) - 1 + 1) ∧ (i : Int) * ((m : Int) - 1 + 1) ≤ 100 ∧ i * m + j < m * m := by
  have e : (m : Int) - 1 + 1 = m := by omega
  have h1 : i * m ≤ 6 * 7 := Nat.mul_le_mul (by omega) hm
  have h2 : ((i * m : Nat) : Int) = (i : Int) * m := by simp
  rw [e]
  refine ⟨by omega, by omega, by omega, spot_lt hi hj⟩

set_option maxRecDepth 100000 in
set_option maxHeartbeats 1600000 in
theorem lower_any (m i j : Nat) (hm7 : m ≤ 7) (hi : i < m) (hj : j < m) (g cap base : Nat) (xs : List Int) (x b : Int) (w : World) (hown : w.ownsRow base 3 1 (.slice (some ⟨g, 0, none⟩) (m * m) cap) (m * m) (xs.map (Value.int .i64))) (hx : xs[i * m + j]? = some x) :
    Calls Tryz.prog 43 #[zoneV ((m : Int) - 1) (some ⟨g, 0, none⟩) (m * m) cap, .int .i64 (i : Int), .int .i64 (j : Int), .int .i64 b] w (RetLow w base g (m * m) cap (xs.set (i * m + j) (min x b))) := by
  obtain ⟨e1, e2, e3, e4⟩ := spot_num hm7 hi hj
  have HP := Lib.hid (fun W => place_any ((m : Int) - 1) i j (some ⟨g, 0, none⟩) (m * m) cap W (by omega) (by omega) (by omega) _ e1 ⟨e2, e3⟩)
  have HO := Lib.hid hown
  have hg := (hown.lt g rfl).2
  have hmm : m * m ≤ 49 := Nat.mul_le_mul hm7 hm7
  have hc := hown.cellAt (i * m + j) (by omega)
  rw [List.getElem?_map, hx] at hc
  have hf := hown.frozenAt (i * m + j)
  generalize i * m + j = t at *
  generalize hL : m * m = L at *
  clear e1 e2 e3 hown hx
  have HC := Lib.hid (show w.cell? ⟨g, t, none⟩ = some (.int .i64 x) from hc)
  have HFr := Lib.hid hf
  clear hc hf
  go_enter Tryz.func43, Tryz.ntmps43
  go_wp2_with fail
  refine (HP.out _).mono ?_
  rintro e w1 ⟨rfl, hb1⟩
  have hB := Lib.hid (zthen (zboxed w _) hb1)
  have hD := (Duo.new w 32 (.int .i64 ((m : Int) - 1)) (.slice (some ⟨g, 0, none⟩) L cap)).below hb1
  have c1 := hD.cell1
  have cx : w1.cell? ⟨g, t, none⟩ = some (.int .i64 x) := (hB.out.cell (p := ⟨g, t, none⟩) hg).trans HC.out
  have fx : w1.frozen? ⟨g, t, none⟩ = false := (hB.out.frozen (p := ⟨g, t, none⟩) hg).trans HFr.out
  clear hb1 hD
  go_wp2_with fail
  go_region
  all_goals go_wp2_with fail
  all_goals go_end0
  have hO1 := own_kept_below HO.out hB.out
  have hS := hO1.stored t (.int .i64 (min x b))
  exact ⟨⟨_, rfl⟩, by rw [List.map_set]; exact hS.1, grown_drew (below_grown hB.out hS.2)⟩
end Go.Proofs.YtlddelnbjihhgaaGreatDoor
