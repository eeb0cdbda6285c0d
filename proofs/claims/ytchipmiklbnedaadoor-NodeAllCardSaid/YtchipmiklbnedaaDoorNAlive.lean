/- The contract of 'alive', which all statements of the node layer ask. -/
import Derived.Test.YtchipmiklbnedaaDoorNNumber
namespace Go.Proofs.YtchipmiklbnedaaDoor
open Go.RowKit
attribute [local go_sem ↓] Go.wp_at_zero Go.wp_at_succ

theorem term_in (k : Int) (h0 : 0 ≤ k) (h1 : k ≤ 1099511627776) (W : World) : Calls Tryd.prog 22 #[.int .i64 k] W (RetW (.int .i64 (-1 - k)) W) := by
  have d0 : decide (k < 0) = false := decide_eq_false (by omega)
  have d1 : decide (1099511627776 < k) = false := decide_eq_false (by omega)
  go_enter Tryd.func22, Tryd.ntmps22
  go_wp2_with fail
  go_ret
  exact ⟨rfl, rfl⟩
theorem value_in (r : Int) (h0 : -1099511627777 ≤ r) (h1 : r < 0) (W : World) : Calls Tryd.prog 24 #[.int .i64 r] W (RetW (.int .i64 (-1 - r)) W) := by
  have HN := Lib.hid (names_any r W)
  rw [show namesB r = true by unfold namesB; simp; omega] at HN
  go_enter Tryd.func24, Tryd.ntmps24
  go_wp2_with (go_at_call 41; ((with_reducible refine HN.out.mono ?_); rintro e w1 ⟨rfl, rfl⟩))
  go_ret
  exact ⟨rfl, rfl⟩
theorem isTerm_any (r : Int) (W : World) : Calls Tryd.prog 26 #[.int .i64 r] W (RetW (.bool (decide (r < 0))) W) := by
  go_enter Tryd.func26, Tryd.ntmps26
  go_wp2_with fail
  go_ret
  exact ⟨rfl, rfl⟩
section
variable {W : World} {own : Nat → Prop} {p lim B : Nat} {L L' : List Nd} {v lo hi r c : Int}
/-- Mk, where it is told: with no error; with one. -/
theorem mk_is (hA : Arena W own p lim L) (hfew : L.length + 1 ≤ 4000) (hown : ∀ i, own i → B ≤ i) (hB : B ≤ W.heap.size) (hm : mkP lim L v lo hi = (L', r, 0)) :
    Calls Tryd.prog 12 #[.pointer (some ⟨p, 0, none⟩), .int .i64 v, .int .i64 lo, .int .i64 hi] W fun e w' => ∃ own' : Nat → Prop, e = .returned (.tuple #[.int .i64 r, .nilIface]) ∧ Arena w' own' p lim L' ∧ (∀ i, own' i → B ≤ i) ∧ Below B W w' := by
  refine (mk_any hA hfew).mono ?_
  rintro e w' ⟨ev, own', rfl, he, hA', ho, hw⟩
  rw [hm] at he hA' ⊢
  rcases he with ⟨-, rfl⟩ | ⟨h, -⟩
  · exact ⟨own', rfl, hA', fun i hi => (hw i hi).elim (hown i) (fun h => by omega), ho.below hB hown⟩
  · exact absurd rfl h
theorem mk_err (hA : Arena W own p lim L) (hfew : L.length + 1 ≤ 4000) (hown : ∀ i, own i → B ≤ i) (hB : B ≤ W.heap.size) (hm : mkP lim L v lo hi = (L', r, c)) (hc : c ≠ 0) :
    Calls Tryd.prog 12 #[.pointer (some ⟨p, 0, none⟩), .int .i64 v, .int .i64 lo, .int .i64 hi] W fun e w' => ∃ (own' : Nat → Prop) (b : Nat), e = .returned (.tuple #[.int .i64 r, .iface 69 (.pointer (some ⟨b, 0, none⟩))]) ∧ Blk w' b 74 #[.string ⟨#[109, 107]⟩, .int .i64 v, .iface 36 (.int .i64 c)] ∧ Arena w' own' p lim L' ∧ (∀ i, own' i → B ≤ i) ∧ Below B W w' := by
  refine (mk_any hA hfew).mono ?_
  rintro e w' ⟨ev, own', rfl, he, hA', ho, hw⟩
  rw [hm] at he hA' ⊢
  rcases he with ⟨h, -⟩ | ⟨-, b, hb, rfl, hk⟩
  · exact absurd h hc
  · exact ⟨own', b, rfl, hk, hA', fun i hi => (hw i hi).elim (hown i) (fun h => by omega), ho.below hB hown⟩
theorem arena_len (h : Arena W own p lim L) : Calls Tryd.prog 15 #[.pointer (some ⟨p, 0, none⟩)] W (RetW (.int .i64 L.length) W) := by
  obtain ⟨P, T, An, Ap, cn, cp, hR, -⟩ := h
  exact len_any hR.c1
theorem arena_limit (h : Arena W own p lim L) : Calls Tryd.prog 16 #[.pointer (some ⟨p, 0, none⟩)] W (RetW (.int .i64 lim) W) := by
  obtain ⟨P, T, An, Ap, cn, cp, hR, -⟩ := h
  exact limit_any hR.c0
theorem arena_has (h : Arena W own p lim L) : Calls Tryd.prog 19 #[.pointer (some ⟨p, 0, none⟩), .int .i64 r] W (RetW (.bool (hasP L.length r)) W) := by
  obtain ⟨P, T, An, Ap, cn, cp, hR, -⟩ := h
  exact hasA_any hR.c1
theorem arena_var (h : Arena W own p lim L) : Calls Tryd.prog 18 #[.pointer (some ⟨p, 0, none⟩), .int .i64 r] W (RetW (.int .i64 (varP L r)) W) := by
  obtain ⟨P, T, An, Ap, cn, cp, hR, -⟩ := h
  exact varA_any hR
theorem arena_walk {b : Nat} (h : Arena W own p lim L) (hb : b < 18446744073709551616) : Calls Tryd.prog 28 #[.pointer (some ⟨p, 0, none⟩), .int .i64 r, .int .u64 (b : Int)] W fun e w' => e = .returned (.int .i64 (endP L b r)) ∧ Below W.heap.size W w' := by
  obtain ⟨P, T, An, Ap, cn, cp, hR, -, -, hu⟩ := h
  exact walkA_any hR hu hb
end
end Go.Proofs.YtchipmiklbnedaaDoor
