/- The contract of the document's Text, of spans. -/
import Derived.Test.YtfdojbeckadalaaDoorRefDigits
namespace Go.Proofs.YtfdojbeckadalaaDoor
open Go.RowKit
attribute [local go_sem ↓] Go.wp_at_zero Go.wp_at_succ eq24 eq23 neq24 eqg24 eqg23

theorem rdigits_in (n : Int) (w : World) (h0 : -1152921504606846976 ≤ n) (h1 : n ≤ 1152921504606846976) : Calls Tryd.prog 41 #[.int .i64 n] w fun e w' => e = .returned (.string (itS n)) ∧ w = w' := rdigits_any n w (by omega) (by omega)

set_option maxHeartbeats 1600000 in
theorem rtext_none (l h : Int) (w : World) (hn : noneS l h = true) : Calls Tryd.prog 23 #[.agg #[.int .i64 l, .int .i64 h]] w (RetStr ⟨#[110, 111, 110, 101]⟩ w) := by
  go_enter Tryd.func23, Tryd.ntmps23
  go_wp2_with (first | (go_at_call 39; ((with_reducible refine (rnone_any _ _ _).mono ?_); rintro e w1 ⟨rfl, hb1⟩)))
  go_ret
  exact ⟨rfl, below_trans (boxed _ _) hb1⟩

set_option maxHeartbeats 1600000 in
theorem rtext_some (l h : Int) (w : World) (hn : noneS l h = false) (hl0 : -1152921504606846976 ≤ l) (hlh : l ≤ h) (hh1 : h ≤ 1152921504606846976) : Calls Tryd.prog 23 #[.agg #[.int .i64 l, .int .i64 h]] w (RetStr (dotS l h) w) := by
  have s1 := itS_size l (by omega) (by omega)
  have s2 := itS_size h (by omega) (by omega)
  have s3 : ¬ 9223372036854775807 < (itS l).size + 2 := by omega
  have s4 : ¬ 9223372036854775807 < (itS l).size + 2 + (itS h).size := by omega
  clear s1 s2
  go_enter Tryd.func23, Tryd.ntmps23
  go_wp2_with (first | (go_at_call 39; ((with_reducible refine (rnone_any _ _ _).mono ?_); rintro e w1 ⟨rfl, hb1⟩); have HB := Lib.hid (below_trans (boxed _ _) hb1); obtain ⟨z0, x0, x1, x2, x3⟩ := (box_new w 23 l h).below hb1; clear hb1))
  go_region_held3 (fun w' => w.heap.size < w'.heap.size ∧ w'.cell? ⟨w.heap.size, 0, none⟩ = some (.int .i64 l) ∧ w'.cell? ⟨w.heap.size, 1, none⟩ = some (.int .i64 h)) (first | assumption | go_keep)
    (first
      | (go_at_call 41; ((with_reducible refine (rdigits_in l _ (by omega) (by omega)).mono ?_); rintro e w' ⟨rfl, rfl⟩))
      | (go_at_call 41; ((with_reducible refine (rdigits_in h _ (by omega) (by omega)).mono ?_); rintro e w' ⟨rfl, rfl⟩)))
  go_wp2_with fail
  go_ret
  exact ⟨rfl, HB.out.drew⟩

theorem rtext_any (l h : Int) (w : World) : Calls Tryd.prog 23 #[.agg #[.int .i64 l, .int .i64 h]] w (RetStr (spanS l h) w) := by
  unfold spanS
  cases hn : noneS l h
  · obtain ⟨h0, h1, h2, e1, e2, hr⟩ := noneS_no hn
    rw [if_neg (by simp)]
    exact rtext_some l h w hn h0 h2 h1
  · rw [if_pos rfl]
    exact rtext_none l h w hn
end Go.Proofs.YtfdojbeckadalaaDoor
