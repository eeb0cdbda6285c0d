/- The contracts of slices.IndexFunc and ContainsFunc, with the function that Has hands them. -/
import Derived.Test.YtlddelnbjihhgaaGreatDoorSmall
import Derived.Deep.LoopGhost
namespace Go.Proofs.YtlddelnbjihhgaaGreatDoor
open Go.RowKit
attribute [local go_sem ↓] Go.wp_at_zero Go.wp_at_succ

def outB (n : Int) : Bool := !(decide (-1152921504606846976 ≤ n) && decide (n ≤ 1152921504606846976))
set_option maxRecDepth 100000 in
theorem out_any (n : Int) (w : World) : Calls Tryz.prog 72 #[.int .i64 n] w (RetB w (outB n)) := by
  unfold outB
  have hin : Calls Tryz.prog 73 #[.int .i64 n] w fun e w' => e = .returned (.bool (decide (-1152921504606846976 ≤ n) && decide (n ≤ 1152921504606846976))) ∧ w' = w := by
    cases h0 : decide (-1152921504606846976 ≤ n)
    · go_enter Tryz.func73, Tryz.ntmps73
      go_wp2_with fail
      go_ret
      exact ⟨rfl, rfl⟩
    · cases h1 : decide (n ≤ 1152921504606846976)
      · go_enter Tryz.func73, Tryz.ntmps73
        go_wp2_with fail
        go_ret
        exact ⟨rfl, rfl⟩
      · go_enter Tryz.func73, Tryz.ntmps73
        go_wp2_with fail
        go_ret
        exact ⟨rfl, rfl⟩
  generalize (decide (-1152921504606846976 ≤ n) && decide (n ≤ 1152921504606846976)) = b at *
  go_enter Tryz.func72, Tryz.ntmps72
  go_wp2_with (go_at_call 73; ((with_reducible refine hin.mono ?_); rintro e w' ⟨rfl, rfl⟩))
  go_ret
  exact ⟨rfl, Below.refl _ _⟩

def anyOut (n : Nat) (f : Nat → Int) : Bool := (List.range n).any fun k => outB (f k)
theorem anyOut_no {n : Nat} {f : Nat → Int} (h : ∀ k, k < n → outB (f k) = false) : anyOut n f = false := by
  unfold anyOut
  rw [List.any_eq_false]
  intro k hk
  rw [h k (List.mem_range.1 hk)]
  exact Bool.false_ne_true
theorem anyOut_yes {n k : Nat} {f : Nat → Int} (hk : k < n) (h : outB (f k) = true) : anyOut n f = true := by
  unfold anyOut
  rw [List.any_eq_true]
  exact ⟨k, List.mem_range.2 hk, h⟩
def RetAt (w : World) (any : Bool) (e : Ending) (w' : World) : Prop := (∃ r : Int, e = .returned (.int .i64 r) ∧ decide (0 ≤ r) = any) ∧ Below w.heap.size w w'
set_option maxRecDepth 100000 in
set_option maxHeartbeats 1600000 in
theorem index_any (b off n cap : Nat) (f : Nat → Int) (w : World) (hn : n ≤ 100) (hb : b < w.heap.size) (hc : ∀ k, k < n → w.cell? ⟨b, off + k, none⟩ = some (.int .i64 (f k))) :
    Calls Tryz.prog 98 #[.slice (some ⟨b, off, none⟩) n cap, .func (.func 72) #[] #[]] w (RetAt w (anyOut n f)) := by
  go_enter Tryz.func98, Tryz.ntmps98
  go_wp2_with fail
  go_loopg [8] n (fun g s8 wr => ∃ k : Nat, k ≤ n ∧ n - k ≤ g ∧ s8 = .int .i64 k ∧ Below w.heap.size w wr ∧ ∀ j, j < k → outB (f j) = false)
  case atStart => exact ⟨0, Nat.zero_le _, by omega, rfl, Below.refl _ _, fun j hj => absurd hj (Nat.not_lt_zero _)⟩
  case round =>
    obtain ⟨k, hk, hg, rfl, hB, hno⟩ := hrel
    by_cases hlt : k < n
    · have hck := (hB.cell (p := ⟨b, off + k, none⟩) hb).trans (hc k hlt)
      have HNo := Lib.hid hno
      have HB := Lib.hid hB
      clear hno hB hc
      cases ho : outB (f k)
      · have HO := Lib.hid ho
        generalize f k = x at hck ho
        go_wp2_with (go_at_call 72; ((with_reducible refine (out_any _ _).mono ?_); rintro e w1 ⟨rfl, hb1⟩))
        go_roundg (n - (k + 1))
        case measure => omega
        case rel =>
          refine ⟨k + 1, by omega, by omega, by go_num, HB.out.trans (hb1.mono HB.out.size), fun j hj => ?_⟩
          by_cases e : j = k
          · subst e; exact HO.out
          · exact HNo.out j (by omega)
      · have HO := Lib.hid (anyOut_yes hlt ho)
        rw [HO.out]
        generalize f k = x at hck ho
        go_wp2_with (go_at_call 72; ((with_reducible refine (out_any _ _).mono ?_); rintro e w1 ⟨rfl, hb1⟩))
        go_ret
        exact ⟨⟨_, rfl, decide_eq_true (by omega)⟩, HB.out.trans (hb1.mono HB.out.size)⟩
    · obtain rfl : k = n := by omega
      have HE := Lib.hid (anyOut_no hno)
      clear hc hno
      go_wp2_with fail
      go_ret
      exact ⟨⟨_, rfl, by rw [HE.out]; rfl⟩, hB⟩
set_option maxRecDepth 100000 in
set_option maxHeartbeats 1600000 in
theorem contains_any (b off n cap : Nat) (f : Nat → Int) (w : World) (hn : n ≤ 100) (hb : b < w.heap.size) (hc : ∀ k, k < n → w.cell? ⟨b, off + k, none⟩ = some (.int .i64 (f k))) :
    Calls Tryz.prog 71 #[.slice (some ⟨b, off, none⟩) n cap, .func (.func 72) #[] #[]] w (RetB w (anyOut n f)) := by
  have HI := Lib.hid (index_any b off n cap f w hn hb hc)
  generalize anyOut n f = x at *
  clear hc
  go_enter Tryz.func71, Tryz.ntmps71
  go_wp2_with (go_at_call 98; ((with_reducible refine HI.out.mono ?_); rintro e w1 ⟨⟨r, rfl, rfl⟩, hb1⟩))
  go_ret
  exact ⟨rfl, hb1⟩
end Go.Proofs.YtlddelnbjihhgaaGreatDoor
