/- The contract of the document's Join. -/
import Derived.Test.YtkgdonoilpkiiaaDoorRefHull
import Derived.Test.YtkgdonoilpkiiaaDoorJoin
import Derived.Test.YtkgdonoilpkiiaaDoorCalcCore
namespace Go.Proofs.YtkgdonoilpkiiaaDoor
open Go.RowKit
attribute [local go_sem ↓] Go.wp_at_zero Go.wp_at_succ eq24 eq23 neq24 eqg24 eqg23

theorem news2 (w : World) (p q : Int) : ∀ j u, ([.int .i64 p, .int .i64 q] : List Value)[j]? = some u → (w.alloc (.cells #[.int .i64 p, .int .i64 q] 3)).cell? ((⟨w.heap.size, 0, none⟩ : Addr).add j) = some u := by
  intro j u hj
  match j, hj with
  | 0, hj => simp at hj; subst hj; go_simp
  | 1, hj => simp at hj; subst hj; simp [Addr.add]
  | j + 2, hj => simp at hj
theorem one2 (p q : Int) : ∀ u ∈ ([.int .i64 p, .int .i64 q] : List Value), u.oneCell' = true := by
  intro u hu
  simp at hu
  rcases hu with rfl | rfl <;> rfl
theorem rhull_own {w : World} {base : Nat} {v : Value} (xs : List Int) (h : w.ownsRow base 3 1 v xs.length (xs.map (Value.int .i64))) (hz : xs.length ≤ 100) : Calls Tryd.prog 21 #[v] w (RetSpan (hullL (fun j => xs.getD j 0) xs.length) (hullH (fun j => xs.getD j 0) xs.length) w) := by
  obtain ⟨A, cap, rfl, -, hI⟩ := ints_of_own h
  generalize hm : xs.length = m at hI hz ⊢
  match m with
  | 0 => exact rhull_none A cap w
  | m + 1 =>
    obtain ⟨b, off, rfl, hb, hc⟩ := hI (by omega)
    exact rhull_any _ b off (m + 1) cap w (by omega) (fun _ => hb) hc

/-- What the document gathers, and the span of it. -/
def joinXs (a b c d : Int) : List Int := (if noneS a b = true then [] else [a, b]) ++ (if noneS c d = true then [] else [c, d])
theorem joinXs_hull (a b c d : Int) : hullL (fun j => (joinXs a b c d).getD j 0) (joinXs a b c d).length = joinL a b c d ∧ hullH (fun j => (joinXs a b c d).getD j 0) (joinXs a b c d).length = joinH a b c d := by
  unfold joinXs joinL joinH
  cases h1 : noneS a b <;> cases h2 : noneS c d
  · have e1 := noneS_no h1
    have e2 := noneS_no h2
    simp [hullL, hullH, mnF, mxF]
    rcases of_cases (min a (min b (min c d))) (max a (max b (max c d))) with k | k <;> omega
  · have e1 := noneS_no h1
    simp [hullL, hullH, mnF, mxF]
    rcases of_cases (min a b) (max a b) with k | k <;> omega
  · have e2 := noneS_no h2
    simp [hullL, hullH, mnF, mxF]
    rcases of_cases (min c d) (max c d) with k | k <;> omega
  · have e2 := noneS_yes h2
    simp [hullL, hullH, e2]

end Go.Proofs.YtkgdonoilpkiiaaDoor
