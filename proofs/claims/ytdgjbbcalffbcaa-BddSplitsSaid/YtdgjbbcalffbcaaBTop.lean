/- The contracts of top, Eval and isVar. -/
import Derived.Test.YtdgjbbcalffbcaaBBase
import Derived.Deep.LoopGhost
import Derived.Lib.MinMax
namespace Go.Proofs.Ytdgjbbcalffbcaa
open Go.RowKit
attribute [local go_sem ↓] Go.wp_at_zero Go.wp_at_succ

/-- The least variable of some refs. -/
def topP (L : List Nd) (rs : List Int) : Int := rs.foldl (fun v r => min v (varP L r)) 12
theorem topP_snoc (L : List Nd) (rs : List Int) {k : Nat} {x : Int} (h : rs[k]? = some x) : topP L (rs.take (k + 1)) = min (topP L (rs.take k)) (varP L x) := by
  have hk : k < rs.length := (List.getElem?_eq_some_iff.1 h).1
  have e : rs[k] = x := (List.getElem?_eq_some_iff.1 h).2
  unfold topP
  rw [List.take_succ_eq_append_getElem hk, e, List.foldl_append]
  rfl
section
variable {W : World} {own : Nat → Prop} {m lim : Nat} {L : List Nd}
theorem varB_any {p : Nat} {ownA : Nat → Prop} (h : Arena W ownA p lim L) (r : Int) : Calls Try.prog 74 #[.pointer (some ⟨p, 0, none⟩), .int .i64 r] W (RetW (.int .i64 (varP L r)) W) := by
  obtain ⟨P, T, An, Ap, cn, cp, hR, -⟩ := h
  exact varA_any hR
set_option maxRecDepth 100000 in
set_option maxHeartbeats 1600000 in
theorem top_any (h : Mg W own m lim L) (rs : List Int) (hl : rs.length ≤ 3) {g c : Nat} (hc : ∀ j x, rs[j]? = some x → W.cell? ⟨g, j, none⟩ = some (.int .i64 x)) :
    Calls Try.prog 61 #[.pointer (some ⟨m, 0, none⟩), .slice (some ⟨g, 0, none⟩) rs.length c] W (RetW (.int .i64 (topP L rs)) W) := by
  obtain ⟨p, q, g', n, c', T, ownA, h⟩ := h
  have c0 : W.cell? ⟨m, 0, none⟩ = some (.pointer (some ⟨p, 0, none⟩)) := h.blk.cell 0
  have HV := Lib.hid (varB_any h.arena)
  have HC := Lib.hid hc
  clear h hc
  obtain ⟨n, hn⟩ : ∃ n, n = rs.length := ⟨_, rfl⟩
  have HN := Lib.hid hn
  rw [← hn] at hl ⊢
  clear hn
  go_enter Try.func61, Try.ntmps61
  go_wp2_with fail
  go_loopg [5, 10] n (fun gk t5 t10 wr => ∃ k : Nat, k + gk = n ∧ t5 = .int .i64 (topP L (rs.take k)) ∧ t10 = .int .i64 (k : Int) ∧ wr = W)
  case atStart => exact ⟨0, by omega, rfl, rfl, rfl⟩
  case round =>
    obtain ⟨k, hk, rfl, rfl, rfl⟩ := hrel
    by_cases hkn : k < n
    · obtain ⟨x, hx⟩ : ∃ x, rs[k]? = some x := ⟨_, List.getElem?_eq_getElem (by have := HN.out; omega)⟩
      have hcx := HC.out k x hx
      have HT := Lib.hid (topP_snoc L rs hx)
      clear hx
      go_wp2_with (go_at_call 74; ((with_reducible refine (HV.out x).mono ?_); rintro e w1 ⟨rfl, rfl⟩))
      go_roundg (gk - 1)
      case measure => omega
      case rel => exact ⟨k + 1, by omega, by rw [HT.out], by go_num, rfl⟩
    · have hkn : k = n := by omega
      go_wp2_with fail
      go_ret
      have e : rs.take k = rs := by rw [hkn, HN.out, List.take_length]
      rw [e]
      exact ⟨rfl, rfl⟩
theorem top_two (L : List Nd) (f g : Int) : topP L [f, g] = min (min 12 (varP L f)) (varP L g) := rfl
theorem top_one (L : List Nd) (f : Int) : topP L [f] = min 12 (varP L f) := rfl
theorem top_three (L : List Nd) (f g h : Int) : topP L [f, g, h] = min (min (min 12 (varP L f)) (varP L g)) (varP L h) := rfl
/-- Eval. -/
theorem walkB_any {p b : Nat} {ownA : Nat → Prop} (h : Arena W ownA p lim L) (r : Int) (hb : b < 18446744073709551616) : Calls Try.prog 35 #[.pointer (some ⟨p, 0, none⟩), .int .i64 r, .int .u64 (b : Int)] W (RetI (endP L b r) W) := by
  obtain ⟨P, T, An, Ap, cn, cp, hR, -, -, hu⟩ := h
  exact walkA_any hR hu hb
theorem eval_any (h : Mg W own m lim L) (r : Int) {b : Nat} (hb : b < 18446744073709551616) : Calls Try.prog 17 #[.pointer (some ⟨m, 0, none⟩), .int .i64 r, .int .u64 (b : Int)] W fun e w' => e = .returned (.bool (fn L r b)) ∧ Below W.heap.size W w' := by
  obtain ⟨p, q, g', n, c', T, ownA, h⟩ := h
  have c0 : W.cell? ⟨m, 0, none⟩ = some (.pointer (some ⟨p, 0, none⟩)) := h.blk.cell 0
  have HV := Lib.hid (walkB_any h.arena r hb)
  clear h hb
  unfold fn
  generalize endP L b r = s at *
  obtain ⟨d, hd⟩ : ∃ d, decide (s = -2) = d := ⟨_, rfl⟩
  rw [hd]
  have hd : (s == -2) = d := by rw [← hd, Bool.eq_iff_iff]; simp
  go_enter Try.func17, Try.ntmps17
  go_wp2_with (go_at_call 35; ((with_reducible refine HV.out.mono ?_); rintro e w1 ⟨rfl, hb1⟩); have HB1 := Lib.hid hb1; clear hb1)
  go_ret
  exact ⟨rfl, HB1.out⟩
end
theorem isVar_any (v : Int) (W : World) : Calls Try.prog 42 #[.int .i64 v] W (RetW (.bool (decide (0 ≤ v ∧ v < 12))) W) := by
  by_cases h0 : 0 ≤ v
  · have e0 : decide (0 ≤ v) = true := decide_eq_true h0
    have hr : decide (0 ≤ v ∧ v < 12) = decide (v < 12) := by simp [h0]
    rw [hr]
    clear hr
    generalize hb : decide (v < 12) = b
    go_enter Try.func42, Try.ntmps42
    go_wp2_with fail
    go_ret
    exact ⟨rfl, rfl⟩
  · have e0 : decide (0 ≤ v) = false := decide_eq_false h0
    have hr : decide (0 ≤ v ∧ v < 12) = false := by simp [h0]
    rw [hr]
    clear hr
    go_enter Try.func42, Try.ntmps42
    go_wp2_with fail
    go_ret
    exact ⟨rfl, rfl⟩
end Go.Proofs.Ytdgjbbcalffbcaa
