/- The contract of Of with the world written out: what it makes is one block, or two. -/
import Derived.Test.YtfdojbeckadalaaDoorBase
namespace Go.Proofs.YtfdojbeckadalaaDoor
open Go.RowKit

set_option maxHeartbeats 400000 in
theorem empty_exact (w : World) : Calls Tryd.prog 29 #[] w fun e w' => e = .returned (.agg #[.int .i64 1, .int .i64 0]) ∧ w.alloc (.cells #[.int .i64 1, .int .i64 0] 24) = w' := by
  go_enter Tryd.func29, Tryd.ntmps29
  go_wp2
  exact bodyPost_ret (v := .agg #[.int .i64 1, .int .i64 0]) (by simp [results, Tryd.results29, go_sem]) rfl ⟨rfl, rfl⟩

set_option maxHeartbeats 800000 in
theorem of_exact_some (l h l' h' : Int) (w : World) (hl : (l < -1152921504606846976 ∧ l' = -1152921504606846976) ∨ (-1152921504606846976 ≤ l ∧ l' = l)) (hh : (1152921504606846976 < h ∧ h' = 1152921504606846976) ∨ (h ≤ 1152921504606846976 ∧ h' = h)) (hle : l' ≤ h') :
    Calls Tryd.prog 24 #[.int .i64 l, .int .i64 h] w fun e w' => e = .returned (.agg #[.int .i64 l', .int .i64 h']) ∧ w.alloc (.cells #[.int .i64 l', .int .i64 h'] 24) = w' := by
  rcases hl with ⟨hl, rfl⟩ | ⟨hl, rfl⟩ <;> rcases hh with ⟨hh, rfl⟩ | ⟨hh, rfl⟩
  all_goals
    go_enter Tryd.func24, Tryd.ntmps24
    go_wp2_with fail
    exact bodyPost_ret (v := .agg #[.int .i64 _, .int .i64 _]) (by simp [results, Tryd.results24, go_sem]) rfl ⟨rfl, rfl⟩

set_option maxHeartbeats 800000 in
theorem of_exact_none (l h l' h' : Int) (w : World) (hl : (l < -1152921504606846976 ∧ l' = -1152921504606846976) ∨ (-1152921504606846976 ≤ l ∧ l' = l)) (hh : (1152921504606846976 < h ∧ h' = 1152921504606846976) ∨ (h ≤ 1152921504606846976 ∧ h' = h)) (hle : h' < l') :
    Calls Tryd.prog 24 #[.int .i64 l, .int .i64 h] w fun e w' => e = .returned (.agg #[.int .i64 1, .int .i64 0]) ∧ (w.alloc (.cells #[.int .i64 1, .int .i64 0] 24)).alloc (.cells #[.int .i64 1, .int .i64 0] 24) = w' := by
  rcases hl with ⟨hl, rfl⟩ | ⟨hl, rfl⟩ <;> rcases hh with ⟨hh, rfl⟩ | ⟨hh, rfl⟩
  · omega
  all_goals
    go_enter Tryd.func24, Tryd.ntmps24
    go_wp2_with (go_at_call 29; ((with_reducible refine (empty_exact _).mono ?_); rintro e w1 ⟨rfl, rfl⟩))
    exact bodyPost_ret (v := .agg #[.int .i64 1, .int .i64 0]) (by simp [results, Tryd.results24, go_sem]) rfl ⟨rfl, rfl⟩

/-- Which of the two it is hangs on the numbers alone. -/
def OfMakes (l h : Int) (O : World → World) : Prop := ∀ w : World, Calls Tryd.prog 24 #[.int .i64 l, .int .i64 h] w fun e w' => e = .returned (.agg #[.int .i64 (ofL l h), .int .i64 (ofH l h)]) ∧ O w = w'
theorem of_makes (l h : Int) : OfMakes l h (fun w => w.alloc (.cells #[.int .i64 (ofL l h), .int .i64 (ofH l h)] 24)) ∨ OfMakes l h (fun w => (w.alloc (.cells #[.int .i64 1, .int .i64 0] 24)).alloc (.cells #[.int .i64 1, .int .i64 0] 24)) := by
  have hl : (l < -1152921504606846976 ∧ max l (-1152921504606846976) = -1152921504606846976) ∨ (-1152921504606846976 ≤ l ∧ max l (-1152921504606846976) = l) := by omega
  have hh : (1152921504606846976 < h ∧ min h 1152921504606846976 = 1152921504606846976) ∨ (h ≤ 1152921504606846976 ∧ min h 1152921504606846976 = h) := by omega
  rcases of_cases l h with ⟨c, e1, e2⟩ | ⟨c, e1, e2⟩
  · left; intro w; rw [e1, e2]; exact of_exact_some l h _ _ w hl hh c
  · right; intro w; rw [e1, e2]; exact of_exact_none l h _ _ w hl hh c
theorem OfMakes.runs {l h : Int} {O : World → World} (x : OfMakes l h O) (w : World) : Calls Tryd.prog 24 #[.int .i64 l, .int .i64 h] w fun e w' => e = .returned (.agg #[.int .i64 (ofL l h), .int .i64 (ofH l h)]) ∧ O w = w' := x w
end Go.Proofs.YtfdojbeckadalaaDoor
