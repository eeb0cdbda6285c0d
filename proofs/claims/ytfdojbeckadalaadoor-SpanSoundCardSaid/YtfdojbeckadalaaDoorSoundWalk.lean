/- The walk of SpanSound: it returns true at any op, and any six numbers. -/
import Derived.Test.YtfdojbeckadalaaDoorSoundBody
namespace Go.Proofs.YtfdojbeckadalaaDoor
open Go.RowKit

theorem sound_walk (op p0 p1 x q0 q1 y : Int) (w : World) :
    Calls Tryd.prog 6 #[.int .i64 op, .agg #[.int .i64 p0, .int .i64 p1, .int .i64 x], .agg #[.int .i64 q0, .int .i64 q1, .int .i64 y]] w (RetTrue w) := by
  cases hx : hasS (ofL p0 p1) (ofH p0 p1) x
  · exact sound_all op p0 p1 x q0 q1 y w _ _ _ _ rfl rfl rfl rfl 0 0 true 0 0 (Or.inl hx)
  cases hy : hasS (ofL q0 q1) (ofH q0 q1) y
  · exact sound_all op p0 p1 x q0 q1 y w _ _ _ _ rfl rfl rfl rfl 0 0 true 0 0 (Or.inr (Or.inl ⟨hx, hy⟩))
  by_cases h0 : op < 0
  · exact sound_all op p0 p1 x q0 q1 y w _ _ _ _ rfl rfl rfl rfl 0 0 true 0 0 (Or.inr (Or.inr (Or.inl ⟨hx, hy, decide_eq_true h0⟩)))
  by_cases h3 : 3 < op
  · exact sound_all op p0 p1 x q0 q1 y w _ _ _ _ rfl rfl rfl rfl 0 0 true 0 0 (Or.inr (Or.inr (Or.inr (Or.inl ⟨hx, hy, decide_eq_false h0, decide_eq_true h3⟩))))
  have ha := ((hasS_iff _ _ _).1 hx).1
  have hc := ((hasS_iff _ _ _).1 hy).1
  have bx := hasS_bd hx
  have hyb := hasS_bd hy
  have hcal := fun w => scalc_some_any op _ _ _ _ w (by omega) (by omega) ha hc
  by_cases hz : op = 3 ∧ y = 0
  · obtain ⟨rfl, rfl⟩ := hz
    exact sound_all 3 p0 p1 x q0 q1 0 w _ _ _ _ rfl rfl rfl rfl _ _ _ 0 11 (Or.inr (Or.inr (Or.inr (Or.inr ⟨hx, hy, decide_eq_false h0, decide_eq_false h3, hcal, fun w => calc_zero x w (inB_yes bx.1 bx.2.1), Or.inr ⟨Or.inr rfl, sound_zero hy⟩⟩))))
  have hmay : may op x y := ⟨by omega, by omega, inB_yes bx.1 bx.2.1, inB_yes hyb.1 hyb.2.1, hz⟩
  cases hr : inB (opR op x y)
  · exact sound_all op p0 p1 x q0 q1 y w _ _ _ _ rfl rfl rfl rfl _ _ _ 0 10 (Or.inr (Or.inr (Or.inr (Or.inr ⟨hx, hy, decide_eq_false h0, decide_eq_false h3, hcal, fun w => calc_over hmay hr w, Or.inr ⟨Or.inl rfl, sound_over (by omega) (by omega) ha hc hx hy hz hr⟩⟩))))
  · exact sound_all op p0 p1 x q0 q1 y w _ _ _ _ rfl rfl rfl rfl _ _ _ (opR op x y) 0 (Or.inr (Or.inr (Or.inr (Or.inr ⟨hx, hy, decide_eq_false h0, decide_eq_false h3, hcal, fun w => calc_in hmay hr w, Or.inl ⟨rfl, sound_in (by omega) (by omega) ha hc hx hy hz hr⟩⟩))))
end Go.Proofs.YtfdojbeckadalaaDoor
