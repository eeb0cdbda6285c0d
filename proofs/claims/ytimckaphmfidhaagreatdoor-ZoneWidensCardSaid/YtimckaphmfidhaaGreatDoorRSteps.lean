/- The contracts of the document's is, Get, Forget: any right zone, any numbers. -/
import Derived.Test.YtimckaphmfidhaaGreatDoorLoose
import Derived.Test.YtimckaphmfidhaaGreatDoorGSmall
namespace Go.Proofs.YtimckaphmfidhaaGreatDoor
open Go.RowKit
attribute [local go_sem ↓] Go.wp_at_zero Go.wp_at_succ

/-- A right zone comes back, its row old or new. -/
def RetY (w : World) (m : Nat) (R : Option Mat) (e : Ending) (w' : World) : Prop := ∃ A cap, e = .returned (zoneV ((m : Int) - 1) A (rlen m R) cap) ∧ ZRes w' 0 m R (zoneV ((m : Int) - 1) A (rlen m R) cap) ∧ Below w.heap.size w w'
theorem RetC.y {w w' : World} {m : Nat} {R : Option Mat} {e : Ending} (h : RetC w m R e w') : RetY w m R e w' := by
  obtain ⟨A, cap, he, hz, hb⟩ := h
  exact ⟨A, cap, he, hz.lower (Nat.zero_le _), hb⟩
theorem retY_congr {w : World} {m : Nat} {R S : Option Mat} {e : Ending} {w' : World} (hr : RetY w m R e w') (h : SameO m R S) : RetY w m S e w' := by
  obtain ⟨A, cap, he, hz, hb⟩ := hr
  rw [rlen_same h] at he hz
  exact ⟨A, cap, he, zres_congr hz h, hb⟩
def isO (m : Nat) (R : Option Mat) (i : Int) : Bool :=
  match R with
  | none => false
  | some _ => namedB ((m : Int) - 1) i
section
variable {w : World} {m : Nat} {R : Option Mat} {A : Option Addr} {base c : Nat} {i j : Int}
/-- The two boxes of a call: the zone's and the result's. -/
def Yz (w W : World) (a a' : Value) : Prop := Duo W w.heap.size 24 a a' ∧ Duo W (w.heap.size + 1) 24 (.int .i64 0) (.slice none 0 0) ∧ Below w.heap.size w W
theorem Yz.below {W W1 : World} {a a' : Value} (h : Yz w W a a') (hb : Below W.heap.size W W1) : Yz w W1 a a' := ⟨h.1.below hb, h.2.1.below hb, h.2.2.trans (hb.mono h.2.2.size)⟩
theorem Yz.drew {W : World} {a a' : Value} (h : Yz w W a a') : Yz w W.drew a a' := ⟨h.1, h.2.1, h.2.2.drew⟩
theorem yz_new (w : World) (a a' : Value) : Yz w ((w.alloc (.cells #[a, a'] 24)).alloc (.cells #[.int .i64 0, .slice none 0 0] 24)) a a' := by
  obtain ⟨W2, h, k0, k1, hb, hs⟩ := two_boxes_r w a a' (.int .i64 0) (.slice none 0 0)
  rw [h]
  exact ⟨k0, k1, hb⟩
/-- The result, put into its box. -/
theorem yz_ret {W : World} {a a' : Value} {B : Option Addr} {c1 b1 : Nat} {S : Option Mat} {fn : Func} {t : Tmp} {ac : Act} (hf : fn.results = #[.cell t 24]) (hd : ac.defers = []) (ht : ac.tmps.getD t undef = .pointer (some ⟨w.heap.size + 1, 0, none⟩))
    (h : Yz w W a a') (hz : ZRes W b1 m S (zoneV ((m : Int) - 1) B (rlen m S) c1)) : bodyPost Tryz.prog fn (RetY w m S) .ret ac ((W.setCell ⟨w.heap.size + 1, 0, none⟩ (.int .i64 ((m : Int) - 1))).setCell ⟨w.heap.size + 1, 1, none⟩ (.slice B (rlen m S) c1)) := by
  have hp := res_put h.2.1 h.2.2 (by omega) (.int .i64 ((m : Int) - 1)) (.slice B (rlen m S) c1)
  have hz2 := zres_put h.2.1 hz (.int .i64 ((m : Int) - 1)) (.slice B (rlen m S) c1)
  have r0 := hp.1.cell0
  have r1 := hp.1.cell1
  simp at ht
  exact bodyPost_ret (v := .agg #[.int .i64 ((m : Int) - 1), .slice B (rlen m S) c1]) (by simp [results, hf, go_sem, ht, r0, r1]) hd ⟨B, c1, rfl, hz2.lower (Nat.zero_le _), hp.2⟩
set_option maxRecDepth 100000 in
set_option maxHeartbeats 3200000 in
theorem rget_none (i j : Int) (W : World) (N : Int) : Calls Tryz.prog 50 #[zoneV N A 0 c, .int .i64 i, .int .i64 j] W (RetI W (-2305843009213693952)) := by
  have hb := zboxed W (.cells #[.int .i64 N, .slice A 0 c] 24)
  go_enter Tryz.func50, Tryz.ntmps50
  go_wp2_with (go_at_call 99; ((with_reducible refine (redge_any _).mono ?_); rintro e w1 ⟨rfl, rfl⟩))
  go_ret
  exact ⟨rfl, hb⟩
/-- One of the two is none of the zone's variables: which, and how, in the order in which it is asked. -/
theorem unknown {n i j : Int} (h : (knownB n i && knownB n j) = false) : decide (i < 0) = true ∨ (decide (i < 0) = false ∧ decide (n < i) = true) ∨ (decide (i < 0) = false ∧ decide (n < i) = false ∧ decide (j < 0) = true) ∨ (decide (i < 0) = false ∧ decide (n < i) = false ∧ decide (j < 0) = false ∧ decide (n < j) = true) := by
  simp only [knownB, Bool.and_eq_false_iff, decide_eq_false_iff_not, decide_eq_true_eq] at *
  omega
set_option maxRecDepth 100000 in
set_option maxHeartbeats 3200000 in
theorem rget_out (h0 : 0 < m) (i j : Int) (W : World) (h : (knownB ((m : Int) - 1) i && knownB ((m : Int) - 1) j) = false) : Calls Tryz.prog 50 #[zoneV ((m : Int) - 1) A (m * m) c, .int .i64 i, .int .i64 j] W (RetI W (-2305843009213693952)) := by
  have hb := zboxed W (.cells #[.int .i64 ((m : Int) - 1), .slice A (m * m) c] 24)
  have hmm : 0 < m * m := Nat.mul_pos h0 h0
  have q0 : (((m * m : Nat) : Int) == 0) = false := by simp; omega
  have q1 : decide (m * m = 0) = false := decide_eq_false (by omega)
  have q3 : ((m : Int) * (m : Int) == 0) = false := by rw [← Int.natCast_mul]; exact q0
  have q4 : decide ((m : Int) * (m : Int) = 0) = false := by rw [← Int.natCast_mul]; exact decide_eq_false (by omega)
  have HB := Lib.hid hb
  clear hb hmm
  rcases unknown h with d1 | ⟨d1, d2⟩ | ⟨d1, d2, d3⟩ | ⟨d1, d2, d3, d4⟩ <;> clear h
  all_goals
    go_enter Tryz.func50, Tryz.ntmps50
    go_wp2_with (go_at_call 99; ((with_reducible refine (redge_any _).mono ?_); rintro e w1 ⟨rfl, rfl⟩))
    go_ret
    exact ⟨rfl, HB.out⟩
theorem known_nat {n : Nat} {i : Int} (k : knownB ((n : Int) - 1) i = true) : ∃ a : Nat, i = a ∧ a < n := by
  simp [knownB] at k
  exact ⟨i.toNat, by omega, by omega⟩
theorem rget_any (h0 : 0 < m) (h7 : m ≤ 7) (hz : ZRes w base m R (zoneV ((m : Int) - 1) A (rlen m R) c)) :
    Calls Tryz.prog 50 #[zoneV ((m : Int) - 1) A (rlen m R) c, .int .i64 i, .int .i64 j] w (RetI w (getO m R i j)) := by
  cases R with
  | none => exact rget_none i j w _
  | some C =>
    obtain ⟨g, rfl, hp, -⟩ := rp_of hz
    cases k : (knownB ((m : Int) - 1) i && knownB ((m : Int) - 1) j)
    · rw [show getO m (some C) i j = -2305843009213693952 from if_neg (by rw [k]; decide)]
      exact rget_out h0 i j w k
    · rw [show getO m (some C) i j = C i.toNat j.toNat from if_pos k]
      rw [Bool.and_eq_true] at k
      obtain ⟨a, rfl, ha⟩ := known_nat k.1
      obtain ⟨b, rfl, hb⟩ := known_nat k.2
      rw [Int.toNat_natCast, Int.toNat_natCast]
      exact rget_in h7 hp ha hb
end
end Go.Proofs.YtimckaphmfidhaaGreatDoor
