/- The contract of the document's Len: how many places something was put into. -/
import Derived.Test.YtchipmiklbnedabMRefGet
namespace Go.Proofs.Ytchipmiklbnedab
open Go.RowKit
attribute [local go_sem ↓] Go.wp_at_zero Go.wp_at_succ

theorem keep_row {W w w1 : World} {pb off k i : Nat} {x1 x2 x3 y1 y2 y3 : Int} (hb : Below w.heap.size w w1) (h : Below W.heap.size W w ∧ pb < w.heap.size ∧ w.cell? ⟨pb, off + k * 4, none⟩ = some (.int .i64 x1) ∧ w.cell? ⟨pb, off + k * 4 + 1, none⟩ = some (.int .i64 x2) ∧ w.cell? ⟨pb, off + k * 4 + 2, none⟩ = some (.int .i64 x3) ∧ w.cell? ⟨pb, off + i * 4, none⟩ = some (.int .i64 y1) ∧ w.cell? ⟨pb, off + i * 4 + 1, none⟩ = some (.int .i64 y2) ∧ w.cell? ⟨pb, off + i * 4 + 2, none⟩ = some (.int .i64 y3)) :
    Below W.heap.size W w1 ∧ pb < w1.heap.size ∧ w1.cell? ⟨pb, off + k * 4, none⟩ = some (.int .i64 x1) ∧ w1.cell? ⟨pb, off + k * 4 + 1, none⟩ = some (.int .i64 x2) ∧ w1.cell? ⟨pb, off + k * 4 + 2, none⟩ = some (.int .i64 x3) ∧ w1.cell? ⟨pb, off + i * 4, none⟩ = some (.int .i64 y1) ∧ w1.cell? ⟨pb, off + i * 4 + 1, none⟩ = some (.int .i64 y2) ∧ w1.cell? ⟨pb, off + i * 4 + 2, none⟩ = some (.int .i64 y3) := by
  obtain ⟨h0, h2, k0, k1, k2, k3, k4, k5⟩ := h
  have hs := hb.size
  exact ⟨h0.trans (hb.mono h0.size), by omega, (hb.cell (p := ⟨pb, _, none⟩) h2).trans k0, (hb.cell (p := ⟨pb, _, none⟩) h2).trans k1, (hb.cell (p := ⟨pb, _, none⟩) h2).trans k2, (hb.cell (p := ⟨pb, _, none⟩) h2).trans k3, (hb.cell (p := ⟨pb, _, none⟩) h2).trans k4, (hb.cell (p := ⟨pb, _, none⟩) h2).trans k5⟩
/-- No put among the first k has the place s. -/
def Fresh (n k : Nat) (f : Nat → Ky × Int) (s : Nat) (b : Bool) : Prop := b = true ↔ ∀ j, j < k → slotP n (f j).1 ≠ s
theorem fresh_zero (n : Nat) (f : Nat → Ky × Int) (s : Nat) : Fresh n 0 f s true := ⟨fun _ j h => absurd h (by omega), fun _ => rfl⟩
theorem fresh_hit {n k : Nat} {f : Nat → Ky × Int} {s : Nat} (h : slotP n (f k).1 = s) : Fresh n (k + 1) f s false := ⟨fun e => (by cases e), fun e => absurd h (e k (by omega))⟩
theorem fresh_miss {n k : Nat} {f : Nat → Ky × Int} {s : Nat} {b : Bool} (hF : Fresh n k f s b) (h : slotP n (f k).1 ≠ s) : Fresh n (k + 1) f s b :=
  ⟨fun e j hj => by
    by_cases e2 : j = k
    · rw [e2]; exact h
    · exact hF.1 e j (by omega), fun e => hF.2 fun j hj => e j (by omega)⟩
theorem len_next {n i : Nat} {f : Nat → Ky × Int} {b : Bool} (hn : 0 < n) (hF : Fresh n i f (slotP n (f i).1) b) : lenP (putsP n noneP (lst f (i + 1))) n = lenP (putsP n noneP (lst f i)) n + if b = true then 1 else 0 := by
  rw [lst_puts, lenP_put hn]
  congr 1
  cases b
  · have : ¬ ∀ j, j < i → slotP n (f j).1 ≠ slotP n (f i).1 := fun h => by have := hF.2 h; cases this
    cases hT : putsP n noneP (lst f i) (slotP n (f i).1) with
    | some x => rfl
    | none =>
      exact absurd (fun j hj e => by
        -- what was put there last stands there
        have key : ∀ k, k ≤ i → (∃ j, j < k ∧ slotP n (f j).1 = slotP n (f i).1) → (putsP n noneP (lst f k) (slotP n (f i).1)).isSome = true := by
          intro k
          induction k with
          | zero => rintro _ ⟨j, hj, _⟩; omega
          | succ k ih =>
            rintro hk ⟨j, hj, e⟩
            rw [lst_puts]
            by_cases e3 : slotP n (f i).1 = slotP n (f k).1
            · rw [e3, putP_at]; rfl
            · rw [putP_far _ _ _ e3]
              refine ih (by omega) ⟨j, ?_, e⟩
              have : j ≠ k := fun h => e3 (by rw [← e, h])
              omega
        have := key i (Nat.le_refl _) ⟨j, hj, e⟩
        rw [hT] at this
        cases this) this
  · rw [puts_none (fun j y hy => by
      obtain ⟨hj, rfl⟩ := lst_of f hy
      exact hF.1 rfl j hj) noneP]
    rfl
section
variable {W : World} {A : Option Addr} {m c n : Nat} {f : Nat → Ky × Int}
set_option maxRecDepth 100000 in
set_option maxHeartbeats 3200000 in
theorem rlen_any (h : Puts W A m f) (hm : m ≤ 4611686018427387904) (hn : 0 < n) (hn2 : n ≤ 65536) :
    Calls Try.prog 13 #[.int .i64 (n : Int), .slice A m c] W (RetB (.int .i64 (lenP (putsP n noneP (lst f m)) n : Nat)) W) := by
  have HP := Lib.hid h
  clear h
  go_enter Try.func13, Try.ntmps13
  go_wp2_with fail
  go_loopg [5, 6] m (fun gk t5 t6 wr => ∃ i q : Nat, i + gk = m ∧ t6 = .int .i64 (i : Int) ∧ t5 = .int .i64 (q : Int) ∧ q = lenP (putsP n noneP (lst f i)) n ∧ Below W.heap.size W wr)
  case atStart => exact ⟨0, 0, by omega, rfl, rfl, (lenP_none n).symm, Below.refl _ _⟩
  case round =>
    rename Nat => g0
    obtain ⟨i, q, hi, rfl, rfl, hq, hB⟩ := hrel
    have HB := Lib.hid hB
    have HQ := Lib.hid hq
    have hqn : q ≤ n := by rw [hq]; exact lenP_le _ _
    have HI := Lib.hid hi
    clear hB hq hi
    by_cases him : i < m
    · obtain ⟨pb, off, hA, hlt, hc⟩ := HP.out.below HB.out (by omega)
      have HC := Lib.hid hc
      obtain ⟨y1, e1⟩ : ∃ x, x = (f i).1.1 := ⟨_, rfl⟩
      obtain ⟨y2, e2⟩ : ∃ x, x = (f i).1.2.1 := ⟨_, rfl⟩
      obtain ⟨y3, e3⟩ : ∃ x, x = (f i).1.2.2 := ⟨_, rfl⟩
      have HY : Hid ((f i).1 = (y1, y2, y3)) := Lib.hid (by rw [e1, e2, e3])
      obtain ⟨s, hs⟩ : ∃ s, s = slotP n (y1, y2, y3) := ⟨_, rfl⟩
      have C2 : Hid (∀ W1, Calls Try.prog 17 #[.int .i64 (n : Int), .agg #[.int .i64 y1, .int .i64 y2, .int .i64 y3]] W1 (RetB (.int .i64 (s : Nat)) W1)) := Lib.hid fun W1 => by rw [hs]; exact rslot_any n y1 y2 y3 W1 hn hn2
      have HS := Lib.hid hs
      have E1 := Lib.hid e1
      have E2 := Lib.hid e2
      have E3 := Lib.hid e3
      have HL := Lib.hid hlt
      subst hA
      clear hc hs e1 e2 e3 hlt
      obtain ⟨wo, hwo⟩ : ∃ wo : World, wo = wr := ⟨_, rfl⟩
      subst hwo
      go_wp2_with fail
      go_loopg [7, 8] i (fun gj t7 t8 wr => ∃ (k : Nat) (b : Bool), k + gj = i ∧ t8 = .int .i64 (k : Int) ∧ t7 = .bool b ∧ Fresh n k f s b ∧ Below wo.heap.size wo wr)
      case atStart => exact ⟨0, true, by omega, rfl, rfl, fresh_zero _ _ _, Below.refl _ _⟩
      case round =>
        rename Nat => gj
        obtain ⟨k, b, hk, rfl, rfl, hF, hBw⟩ := hrel
        have HF := Lib.hid hF
        have HW := Lib.hid hBw
        have HKk := Lib.hid hk
        clear hF hBw hk
        by_cases hki : k < i
        · have hkm : k < m := by omega
          obtain ⟨k0, k1, k2, -⟩ := HC.out k (by omega)
          obtain ⟨j0, j1, j2, -⟩ := HC.out i him
          rw [← E1.out] at j0
          rw [← E2.out] at j1
          rw [← E3.out] at j2
          obtain ⟨x1, e1⟩ : ∃ x, x = (f k).1.1 := ⟨_, rfl⟩
          obtain ⟨x2, e2⟩ : ∃ x, x = (f k).1.2.1 := ⟨_, rfl⟩
          obtain ⟨x3, e3⟩ : ∃ x, x = (f k).1.2.2 := ⟨_, rfl⟩
          rw [← e1] at k0
          rw [← e2] at k1
          rw [← e3] at k2
          have HX : Hid ((f k).1 = (x1, x2, x3)) := Lib.hid (by rw [e1, e2, e3])
          obtain ⟨s1, hs1⟩ : ∃ s1, s1 = slotP n (x1, x2, x3) := ⟨_, rfl⟩
          have C1 : Hid (∀ W1, Calls Try.prog 17 #[.int .i64 (n : Int), .agg #[.int .i64 x1, .int .i64 x2, .int .i64 x3]] W1 (RetB (.int .i64 (s1 : Nat)) W1)) := Lib.hid fun W1 => by rw [hs1]; exact rslot_any n x1 x2 x3 W1 hn hn2
          have K0 : Hid (Below W.heap.size W wr.drew ∧ pb < wr.drew.heap.size ∧ wr.drew.cell? ⟨pb, off + k * 4, none⟩ = some (.int .i64 x1) ∧ wr.drew.cell? ⟨pb, off + k * 4 + 1, none⟩ = some (.int .i64 x2) ∧ wr.drew.cell? ⟨pb, off + k * 4 + 2, none⟩ = some (.int .i64 x3) ∧ wr.drew.cell? ⟨pb, off + i * 4, none⟩ = some (.int .i64 y1) ∧ wr.drew.cell? ⟨pb, off + i * 4 + 1, none⟩ = some (.int .i64 y2) ∧ wr.drew.cell? ⟨pb, off + i * 4 + 2, none⟩ = some (.int .i64 y3)) := Lib.hid (keep_row (show Below wo.heap.size wo wr.drew from HW.out.drew) ⟨HB.out, HL.out, k0, k1, k2, j0, j1, j2⟩)
          have HS1 := Lib.hid hs1
          clear k0 k1 k2 j0 j1 j2 e1 e2 e3 hs1
          by_cases he : s1 = s
          · subst he
            go_wp2_with fail
            go_region_held3 (fun w' => Below W.heap.size W w' ∧ pb < w'.heap.size ∧ w'.cell? ⟨pb, off + k * 4, none⟩ = some (.int .i64 x1) ∧ w'.cell? ⟨pb, off + k * 4 + 1, none⟩ = some (.int .i64 x2) ∧ w'.cell? ⟨pb, off + k * 4 + 2, none⟩ = some (.int .i64 x3) ∧ w'.cell? ⟨pb, off + i * 4, none⟩ = some (.int .i64 y1) ∧ w'.cell? ⟨pb, off + i * 4 + 1, none⟩ = some (.int .i64 y2) ∧ w'.cell? ⟨pb, off + i * 4 + 2, none⟩ = some (.int .i64 y3))
            (first | (with_reducible exact K0.out) | (with_reducible exact keep_row hb1 K0.out) | (with_reducible exact keep_row hb2 (keep_row hb1 K0.out)))
            (first
              | (go_at_call 17; ((with_reducible refine (C1.out _).mono ?_); rintro e w1 ⟨rfl, hb1⟩))
              | (go_at_call 17; ((with_reducible refine (C2.out _).mono ?_); rintro e w2 ⟨rfl, hb2⟩)))
            have hbw : Below wo.heap.size wo w2 := HW.out.drew.trans ((hb1.trans (hb2.mono hb1.size)).mono HW.out.size)
            have HZ := Lib.hid hbw
            clear hbw hb1 hb2
            go_wp2_with fail
            have hk := HKk.out
            go_roundg (gj - 1)
            case measure => omega
            case rel => exact ⟨k + 1, false, by omega, by simp, rfl, fresh_hit (by rw [HX.out]; exact HS1.out.symm), HZ.out⟩
          · have hne : ¬ ((s1 : Int) = (s : Int)) := by omega
            have d1 : ((s1 : Int) == (s : Int)) = false := by simp; omega
            have d2 : (s1 == s) = false := by simpa using he
            have HNE := Lib.hid he
            clear he
            go_wp2_with fail
            go_region_held3 (fun w' => Below W.heap.size W w' ∧ pb < w'.heap.size ∧ w'.cell? ⟨pb, off + k * 4, none⟩ = some (.int .i64 x1) ∧ w'.cell? ⟨pb, off + k * 4 + 1, none⟩ = some (.int .i64 x2) ∧ w'.cell? ⟨pb, off + k * 4 + 2, none⟩ = some (.int .i64 x3) ∧ w'.cell? ⟨pb, off + i * 4, none⟩ = some (.int .i64 y1) ∧ w'.cell? ⟨pb, off + i * 4 + 1, none⟩ = some (.int .i64 y2) ∧ w'.cell? ⟨pb, off + i * 4 + 2, none⟩ = some (.int .i64 y3))
            (first | (with_reducible exact K0.out) | (with_reducible exact keep_row hb1 K0.out) | (with_reducible exact keep_row hb2 (keep_row hb1 K0.out)))
            (first
              | (go_at_call 17; ((with_reducible refine (C1.out _).mono ?_); rintro e w1 ⟨rfl, hb1⟩))
              | (go_at_call 17; ((with_reducible refine (C2.out _).mono ?_); rintro e w2 ⟨rfl, hb2⟩)))
            have hbw : Below wo.heap.size wo w2 := HW.out.drew.trans ((hb1.trans (hb2.mono hb1.size)).mono HW.out.size)
            have HZ := Lib.hid hbw
            clear hbw hb1 hb2
            go_wp2_with fail
            have hk := HKk.out
            go_roundg (gj - 1)
            case measure => omega
            case rel => exact ⟨k + 1, b, by omega, by simp, rfl, fresh_miss HF.out (by rw [HX.out]; exact fun h => HNE.out (HS1.out.trans h)), HZ.out⟩
        · have hke : k = i := by have := HKk.out; omega
          subst hke
          have HN : Hid (lenP (putsP n noneP (lst f (k + 1))) n = q + if b = true then 1 else 0) := Lib.hid (by
            rw [HQ.out]
            exact len_next hn (by rw [HY.out, ← HS.out]; exact HF.out))
          clear hki
          cases b
          · go_wp2_with fail
            have hi := HI.out
            go_roundg (g0 - 1)
            case measure => omega
            case rel => exact ⟨k + 1, q, by omega, by simp, by simp, HN.out.symm, HB.out.trans (HW.out.mono HB.out.size)⟩
          · go_wp2_with fail
            have hi := HI.out
            go_roundg (g0 - 1)
            case measure => omega
            case rel => exact ⟨k + 1, q + 1, by omega, by simp, by simp, HN.out.symm, HB.out.trans (HW.out.mono HB.out.size)⟩
    · have hie : i = m := by have := HI.out; omega
      subst hie
      go_wp2_with fail
      go_ret
      exact ⟨by rw [← HQ.out]; rfl, HB.out⟩
end
end Go.Proofs.Ytchipmiklbnedab
