/- The contracts of Term and Value, the program's and the document's, whatever is asked. -/
import Derived.Test.YtchipmiklbnedaaDoorNRefFind
namespace Go.Proofs.YtchipmiklbnedaaDoor
open Go.RowKit
attribute [local go_sem ↓] Go.wp_at_zero Go.wp_at_succ

/-- The terminal of k; the k of a ref. -/
def termP (k : Int) : Int := if k < 0 ∨ 1099511627776 < k then -1 else -1 - k
def valueP (r : Int) : Int := if 0 ≤ r ∨ r < -1099511627777 then 0 else -1 - r
theorem term_any (k : Int) (W : World) : Calls Tryd.prog 22 #[.int .i64 k] W (RetW (.int .i64 (termP k)) W) := by
  by_cases h0 : k < 0
  · rw [show termP k = -1 by unfold termP; rw [if_pos (.inl h0)]]
    go_enter Tryd.func22, Tryd.ntmps22
    go_wp2_with fail
    go_ret
    exact ⟨rfl, rfl⟩
  · by_cases h1 : 1099511627776 < k
    · rw [show termP k = -1 by unfold termP; rw [if_pos (.inr h1)]]
      have d0 : decide (k < 0) = false := decide_eq_false h0
      have d1 : decide (1099511627776 < k) = true := decide_eq_true h1
      go_enter Tryd.func22, Tryd.ntmps22
      go_wp2_with fail
      go_ret
      exact ⟨rfl, rfl⟩
    · rw [show termP k = -1 - k by unfold termP; rw [if_neg (by omega)]]
      exact term_in k (by omega) (by omega) W
theorem value_any (r : Int) (W : World) : Calls Tryd.prog 24 #[.int .i64 r] W (RetW (.int .i64 (valueP r)) W) := by
  by_cases h : 0 ≤ r ∨ r < -1099511627777
  · rw [show valueP r = 0 by unfold valueP; rw [if_pos h]]
    have HN := Lib.hid (names_any r W)
    rw [show namesB r = false by unfold namesB; simp; omega] at HN
    clear h
    go_enter Tryd.func24, Tryd.ntmps24
    go_wp2_with (go_at_call 41; ((with_reducible refine HN.out.mono ?_); rintro e w1 ⟨rfl, rfl⟩))
    go_ret
    exact ⟨rfl, rfl⟩
  · rw [show valueP r = -1 - r by unfold valueP; rw [if_neg h]]
    exact value_in r (by omega) (by omega) W
theorem rterm_any (k : Int) (W : World) : Calls Tryd.prog 23 #[.int .i64 k] W (RetW (.int .i64 (termP k)) W) := by
  by_cases h0 : k < 0
  · rw [show termP k = -1 by unfold termP; rw [if_pos (.inl h0)]]
    go_enter Tryd.func23, Tryd.ntmps23
    go_wp2_with fail
    go_ret
    exact ⟨rfl, rfl⟩
  · by_cases h1 : 1099511627776 < k
    · rw [show termP k = -1 by unfold termP; rw [if_pos (.inr h1)]]
      have d0 : decide (k < 0) = false := decide_eq_false h0
      have d1 : decide (1099511627776 < k) = true := decide_eq_true h1
      go_enter Tryd.func23, Tryd.ntmps23
      go_wp2_with fail
      go_ret
      exact ⟨rfl, rfl⟩
    · rw [show termP k = -k - 1 by unfold termP; rw [if_neg (by omega)]; omega]
      have d0 : decide (k < 0) = false := decide_eq_false h0
      have d1 : decide (1099511627776 < k) = false := decide_eq_false h1
      go_enter Tryd.func23, Tryd.ntmps23
      go_wp2_with fail
      go_ret
      exact ⟨rfl, rfl⟩
theorem rvalue_any (r : Int) (W : World) : Calls Tryd.prog 25 #[.int .i64 r] W (RetW (.int .i64 (valueP r)) W) := by
  by_cases h0 : 0 ≤ r
  · rw [show valueP r = 0 by unfold valueP; rw [if_pos (.inl h0)]]
    go_enter Tryd.func25, Tryd.ntmps25
    go_wp2_with (go_at_call 42; ((with_reducible refine (lowest_any _).mono ?_); rintro e w1 ⟨rfl, rfl⟩))
    go_ret
    exact ⟨rfl, rfl⟩
  · have d0 : decide (0 ≤ r) = false := decide_eq_false h0
    by_cases h1 : r < -1099511627777
    · rw [show valueP r = 0 by unfold valueP; rw [if_pos (.inr h1)]]
      have d1 : decide (r < -1099511627777) = true := decide_eq_true h1
      go_enter Tryd.func25, Tryd.ntmps25
      go_wp2_with (go_at_call 42; ((with_reducible refine (lowest_any _).mono ?_); rintro e w1 ⟨rfl, rfl⟩))
      go_ret
      exact ⟨rfl, rfl⟩
    · rw [show valueP r = -r - 1 by unfold valueP; rw [if_neg (by omega)]; omega]
      have d1 : decide (r < -1099511627777) = false := decide_eq_false h1
      go_enter Tryd.func25, Tryd.ntmps25
      go_wp2_with (go_at_call 42; ((with_reducible refine (lowest_any _).mono ?_); rintro e w1 ⟨rfl, rfl⟩))
      go_ret
      exact ⟨rfl, rfl⟩
section
variable {w W : World} {p lim : Nat} {L : List Nd}
theorem arena_out {own : Nat → Prop} {r : Int} (h : Arena W own p lim L) (hr : ¬ (0 ≤ r ∧ r < (L.length : Int))) : Calls Tryd.prog 17 #[.pointer (some ⟨p, 0, none⟩), .int .i64 r] W fun e w' => e = .returned (.tuple #[.agg #[.int .i64 0, .int .i64 0, .int .i64 0], .bool false]) ∧ Below W.heap.size W w' := by
  obtain ⟨P, T, An, Ap, cn, cp, hR, -⟩ := h
  exact get_none hR (by unfold holdsB; simp; omega)
end
end Go.Proofs.YtchipmiklbnedaaDoor
