/- The document's Support. -/
import Derived.Test.YtdgjbbcalffbcaaBAllWalk
namespace Go.Proofs.Ytdgjbbcalffbcaa
open Go.RowKit
attribute [local go_sem ↓] Go.wp_at_zero Go.wp_at_succ

/-- The number of the first v bits. -/
def suppS (H : Nat → Bool) : Nat → Nat
  | 0 => 0
  | v + 1 => suppS H v + if H v = true then 2 ^ v else 0
theorem suppS_lt (H : Nat → Bool) : ∀ v, suppS H v < 2 ^ v
  | 0 => by show 0 < 1; omega
  | v + 1 => by
    have := suppS_lt H v
    show suppS H v + (if H v = true then 2 ^ v else 0) < 2 ^ (v + 1)
    rw [Nat.pow_succ]
    split <;> omega
theorem suppS_at (H : Nat → Bool) : ∀ v u, (suppS H v).testBit u = (decide (u < v) && H u)
  | 0, u => by simp [suppS]
  | v + 1, u => by
    have h0 : (suppS H v).testBit v = false := Nat.testBit_lt_two_pow (suppS_lt H v)
    have ih := suppS_at H v u
    show (suppS H v + (if H v = true then 2 ^ v else 0)).testBit u = _
    by_cases hv : H v = true
    · rw [if_pos hv, add_bit h0]
      by_cases e : u = v
      · subst e; simp [hv]
      · rw [if_neg e, ih]
        congr 1
        rw [decide_eq_decide]; omega
    · rw [if_neg hv, Nat.add_zero, ih]
      by_cases e : u = v
      · subst e; simp [hv]
      · congr 1
        rw [decide_eq_decide]; omega
noncomputable def hangB (F : Nat → Bool) (v n : Nat) : Bool := @decide (∃ b, b < n ∧ F (setBit b v false) ≠ F (setBit b v true)) (Classical.propDecidable _)
theorem hang_iff (F : Nat → Bool) (v n : Nat) : hangB F v n = true ↔ ∃ b, b < n ∧ F (setBit b v false) ≠ F (setBit b v true) := @decide_eq_true_iff _ (Classical.propDecidable _)
theorem hang_next (F : Nat → Bool) (v n : Nat) : hangB F v (n + 1) = (hangB F v n || (F (setBit n v false) != F (setBit n v true))) := by
  rw [Bool.eq_iff_iff, hang_iff, Bool.or_eq_true, hang_iff, bne_iff_ne]
  constructor
  · rintro ⟨b, hb, h⟩
    rcases (show b < n ∨ b = n by omega) with hb | rfl
    · exact .inl ⟨b, hb, h⟩
    · exact .inr h
  · rintro (⟨b, hb, h⟩ | h)
    · exact ⟨b, by omega, h⟩
    · exact ⟨n, by omega, h⟩
/-- It is the support of the ref. -/
theorem suppS_is {L : List Nd} (hR : RightL L) (hA : AllB L) {F : Nat → Bool} {r : Int} (h : Tells L F r) : suppS (fun v => hangB F v 4096) 12 = suppP L r := by
  apply Nat.eq_of_testBit_eq
  intro v
  rw [suppS_at]
  by_cases hv : v < 12
  · rw [decide_eq_true hv, Bool.true_and]
    exact Bool.eq_iff_iff.2 ((hang_iff F v 4096).trans (supp_tells hR hA h v).symm)
  · rw [decide_eq_false hv, Bool.false_and]
    refine (Nat.testBit_lt_two_pow (Nat.lt_of_lt_of_le (supp_lt hR r) ?_)).symm
    exact Nat.pow_le_pow_right (n := 2) (by omega) (show 12 ≤ v by omega)
set_option maxRecDepth 100000 in
set_option maxHeartbeats 3200000 in
theorem support_ref {W : World} {g c : Nat} {F : Nat → Bool} (hT : Tab W (.slice (some ⟨g, 0, none⟩) 4096 c) F) : Calls Try.prog 19 #[.slice (some ⟨g, 0, none⟩) 4096 c] W fun e w' => e = .returned (.int .u64 (suppS (fun v => hangB F v 4096) 12 : Nat)) ∧ Below W.heap.size W w' := by
  have HC : Hid (∀ w, Below W.heap.size W w → ∀ j, j < 4096 → w.cell? ⟨g, j, none⟩ = some (.bool (F j))) := Lib.hid fun w hw j hj => by
    obtain ⟨g', c', e, -, h⟩ := hT.below hw
    injection e with e; injection e with e; injection e with e
    subst e; exact h j hj
  have HP := Lib.hid (fun i (h : i ≤ 12) => pow_le12 h)
  have HL := Lib.hid (suppS_lt fun v => hangB F v 4096)
  clear hT
  go_enter Try.func19, Try.ntmps19
  go_wp2_with fail
  go_loopg [3, 4, 5] 12 (fun gk t3 t4 t5 wr => ∃ v : Nat, v + gk = 12 ∧ t3 = .int .u64 (suppS (fun v => hangB F v 4096) v : Nat) ∧ t4 = .int .u64 ((2 ^ v : Nat) : Int) ∧ t5 = .int .i64 (v : Int) ∧ Below W.heap.size W wr)
  case atStart => exact ⟨0, by omega, rfl, rfl, rfl, Below.refl _ _⟩
  case round =>
    rename Nat => g0
    obtain ⟨v, hgv, rfl, rfl, rfl, hb⟩ := hrel
    have HB := Lib.hid hb
    have HG := Lib.hid hgv
    clear hb hgv
    by_cases hv : v < 12
    · have hv12 := hv
      have e0 : decide ((v : Int) < 12) = true := decide_eq_true (by omega)
      obtain ⟨s, hs⟩ : ∃ s, s = suppS (fun v => hangB F v 4096) v := ⟨_, rfl⟩
      obtain ⟨p, hp⟩ : ∃ p, p = 2 ^ v := ⟨_, rfl⟩
      have hp1 : p ≤ 4096 := by rw [hp]; exact HP.out v (by omega)
      have hs1 : s < 4096 := by have := HL.out v; rw [← hs] at this; have := HP.out v (by omega); omega
      rw [← hs, ← hp]
      have HS := Lib.hid hs
      have HPw := Lib.hid hp
      clear hs hp
      go_wp2_with fail
      obtain ⟨wo, hwo⟩ : ∃ wo, wo = wr := ⟨_, rfl⟩
      rw [← hwo] at HB
      rw [← hwo]
      clear hwo
      go_loopg [6, 7] 4096 (fun gk t6 t7 wq => ∃ n : Nat, n + gk = 4096 ∧ t7 = .int .i64 (n : Int) ∧ t6 = .bool (hangB F v n) ∧ Below W.heap.size W wq)
      case atStart => exact ⟨0, by omega, rfl, by rw [show hangB F v 0 = false from Bool.eq_false_iff.2 fun h => by obtain ⟨b, hb, -⟩ := (hang_iff F v 0).1 h; omega], HB.out⟩
      case round =>
        rename Nat => g1
        obtain ⟨n, hgn, rfl, rfl, hbn⟩ := hrel
        have HBn := Lib.hid hbn
        have HGn := Lib.hid hgn
        have HN := Lib.hid (hang_next F v n)
        obtain ⟨x0, hx0⟩ : ∃ x, hangB F v n = x := ⟨_, rfl⟩
        rw [hx0] at HN ⊢
        have HX0 := Lib.hid hx0
        clear hgn hx0
        by_cases hn : n < 4096
        · have hbd : Below W.heap.size W wr.drew := hbn.drew
          have la := setBit_lt (b := n) false hn hv12
          have lb := setBit_lt (b := n) true hn hv12
          have ka := HC.out wr.drew hbd _ la
          have kb := HC.out wr.drew hbd _ lb
          have HW1 := Lib.hid (with_any n v false hn hv12)
          have HW2 := Lib.hid (with_any n v true hn hv12)
          obtain ⟨x, hx⟩ : ∃ x, F (setBit n v false) = x := ⟨_, rfl⟩
          obtain ⟨y, hy⟩ : ∃ y, F (setBit n v true) = y := ⟨_, rfl⟩
          rw [hx] at ka HN
          rw [hy] at kb HN
          clear hx hy
          generalize setBit n v false = a at la ka HW1
          generalize setBit n v true = b at lb kb HW2
          have K0 : Hid (wr.drew.cell? ⟨g, a, none⟩ = some (.bool x) ∧ wr.drew.cell? ⟨g, b, none⟩ = some (.bool y)) := Lib.hid ⟨ka, kb⟩
          have HD := Lib.hid hbd
          clear ka kb hbd hbn
          have la' : (a : Int) < 4096 := by omega
          have lb' : (b : Int) < 4096 := by omega
          cases x <;> cases y
          · go_wp2_with fail
            go_region_held3 (fun w => (w.cell? ⟨g, a, none⟩ = some (.bool false) ∧ w.cell? ⟨g, b, none⟩ = some (.bool false)))
              (first | (with_reducible exact K0.out))
              (first
                | (go_at_call 37; ((with_reducible refine (HW1.out _).mono ?_); rintro e w9 ⟨rfl, rfl⟩))
                | (go_at_call 37; ((with_reducible refine (HW2.out _).mono ?_); rintro e w9 ⟨rfl, rfl⟩)))
            go_wp2_with fail
            have hG1 := HGn.out
            go_roundg (g1 - 1)
            case measure => omega
            case rel => exact ⟨n + 1, by omega, by go_num, by rw [HN.out]; exact congrArg Value.bool (Bool.or_false x0).symm, HD.out⟩
          · go_wp2_with fail
            go_region_held3 (fun w => (w.cell? ⟨g, a, none⟩ = some (.bool false) ∧ w.cell? ⟨g, b, none⟩ = some (.bool true)))
              (first | (with_reducible exact K0.out))
              (first
                | (go_at_call 37; ((with_reducible refine (HW1.out _).mono ?_); rintro e w9 ⟨rfl, rfl⟩))
                | (go_at_call 37; ((with_reducible refine (HW2.out _).mono ?_); rintro e w9 ⟨rfl, rfl⟩)))
            go_wp2_with fail
            have hG1 := HGn.out
            go_roundg (g1 - 1)
            case measure => omega
            case rel => exact ⟨n + 1, by omega, by go_num, by rw [HN.out]; exact congrArg Value.bool (Bool.or_true x0).symm, HD.out⟩
          · go_wp2_with fail
            go_region_held3 (fun w => (w.cell? ⟨g, a, none⟩ = some (.bool true) ∧ w.cell? ⟨g, b, none⟩ = some (.bool false)))
              (first | (with_reducible exact K0.out))
              (first
                | (go_at_call 37; ((with_reducible refine (HW1.out _).mono ?_); rintro e w9 ⟨rfl, rfl⟩))
                | (go_at_call 37; ((with_reducible refine (HW2.out _).mono ?_); rintro e w9 ⟨rfl, rfl⟩)))
            go_wp2_with fail
            have hG1 := HGn.out
            go_roundg (g1 - 1)
            case measure => omega
            case rel => exact ⟨n + 1, by omega, by go_num, by rw [HN.out]; exact congrArg Value.bool (Bool.or_true x0).symm, HD.out⟩
          · go_wp2_with fail
            go_region_held3 (fun w => (w.cell? ⟨g, a, none⟩ = some (.bool true) ∧ w.cell? ⟨g, b, none⟩ = some (.bool true)))
              (first | (with_reducible exact K0.out))
              (first
                | (go_at_call 37; ((with_reducible refine (HW1.out _).mono ?_); rintro e w9 ⟨rfl, rfl⟩))
                | (go_at_call 37; ((with_reducible refine (HW2.out _).mono ?_); rintro e w9 ⟨rfl, rfl⟩)))
            go_wp2_with fail
            have hG1 := HGn.out
            go_roundg (g1 - 1)
            case measure => omega
            case rel => exact ⟨n + 1, by omega, by go_num, by rw [HN.out]; exact congrArg Value.bool (Bool.or_false x0).symm, HD.out⟩
        · have hn' : n = 4096 := by have := HGn.out; omega
          have HX1 : Hid (hangB F v 4096 = x0) := Lib.hid (by rw [← hn']; exact HX0.out)
          have hb2 := hbn
          clear hbn
          have hw1 : IntKind.u64.wrap ((s : Int) + (p : Int)) = ((s + p : Nat) : Int) := by rw [IntKind.wrap_u64]; omega
          have hw2 : IntKind.u64.wrap ((p : Int) * 2) = ((p * 2 : Nat) : Int) := by rw [IntKind.wrap_u64]; omega
          have HSn : Hid (suppS (fun v => hangB F v 4096) (v + 1) = s + if x0 = true then p else 0) := Lib.hid (by show suppS _ v + (if hangB F v 4096 = true then 2 ^ v else 0) = _; rw [HX1.out, ← HS.out, ← HPw.out])
          have HPn : Hid (2 ^ (v + 1) = p * 2) := Lib.hid (by rw [Nat.pow_succ, ← HPw.out])
          cases x0
          all_goals
            go_wp2_with fail
            have hG0 := HG.out
            go_roundg (g0 - 1)
            case measure => omega
            case rel => exact ⟨v + 1, by omega, by rw [HSn.out]; first | rfl | (simp; done), by rw [HPn.out]; first | rfl | (simp; done), by go_num, HBn.out⟩
    · have hv : v = 12 := by have := HG.out; omega
      subst hv
      go_wp2_with fail
      go_ret
      exact ⟨rfl, HB.out⟩
end Go.Proofs.Ytdgjbbcalffbcaa
