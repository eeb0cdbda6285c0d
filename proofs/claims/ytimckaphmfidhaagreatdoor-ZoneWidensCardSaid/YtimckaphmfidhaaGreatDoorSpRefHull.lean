/- The contracts of the document's Leq, Hull, Narrow. -/
import Derived.Test.YtimckaphmfidhaaGreatDoorSpRefSets
import Derived.Test.YtimckaphmfidhaaGreatDoorGNums
import Derived.Deep.QuietTactic
import Derived.BigQuiet
namespace Go.Proofs.YtimckaphmfidhaaGreatDoor.Sp
open Go.RowKit
attribute [local go_sem ↓] Go.wp_at_zero Go.wp_at_succ eq24 eq23 neq24 eqg24 eqg23

/-- Leq, as the document says it. -/
theorem leqS_ref (a b c d : Int) : leqS a b c d = (noneS a b || (hasS c d a && hasS c d b)) := by
  rw [Bool.eq_iff_iff, leqS_iff, Bool.or_eq_true, Bool.and_eq_true, hasS_iff, hasS_iff]
  cases h : noneS a b
  · have e := noneS_no h
    cases h' : noneS c d
    · have e' := noneS_no h'
      simp only [true_and, Bool.false_eq_true, false_or]
      omega
    · have e' := noneS_yes h'
      simp only [Bool.true_eq_false, false_and, Bool.false_eq_true, or_self, iff_false]
      omega
  · have e := noneS_yes h
    simp only [true_or, iff_true]
    exact Or.inl e

set_option maxHeartbeats 1600000 in
theorem rleq_walk (a b c d : Int) (w : World) (x : Bool) (h : (noneS a b = true ∧ x = true) ∨ (noneS a b = false ∧ hasS c d a = false ∧ x = false) ∨ (noneS a b = false ∧ hasS c d a = true ∧ hasS c d b = x)) : Calls Tryz.prog 93 #[.agg #[.int .i64 a, .int .i64 b], .agg #[.int .i64 c, .int .i64 d]] w (RetBool x w) := by
  have HB := Lib.hid (show Below w.heap.size w ((w.alloc (.cells #[.int .i64 a, .int .i64 b] 78)).alloc (.cells #[.int .i64 c, .int .i64 d] 78)) from ((Below.refl _ _).alloc (Nat.le_refl _) _).alloc (by simp) _)
  rcases h with ⟨h, rfl⟩ | ⟨h, h', rfl⟩ | ⟨h, h', rfl⟩
  · go_enter Tryz.func93, Tryz.ntmps93
    go_wp2_with (first
      | (go_at_call 95; ((with_reducible refine (rnone_any a b _).mono ?_); rintro e w1 ⟨rfl, hb1⟩); obtain ⟨hc, hf⟩ := bcell hb1))
    go_ret
    exact ⟨rfl, below_trans HB.out hb1⟩
  · go_enter Tryz.func93, Tryz.ntmps93
    go_wp2_with (first
      | (go_at_call 95; ((with_reducible refine (rnone_any a b _).mono ?_); rintro e w1 ⟨rfl, hb1⟩); obtain ⟨hc, hf⟩ := bcell hb1)
      | (go_at_call 127; ((with_reducible refine (rhas_any c d a _).mono ?_); rintro e w2 ⟨rfl, hb2⟩); have hb3 := below_trans hb1 hb2; clear hc hf; obtain ⟨hc, hf⟩ := bcell hb3))
    go_ret
    exact ⟨rfl, below_trans HB.out hb3⟩
  · cases hx : hasS c d b
    all_goals
      go_enter Tryz.func93, Tryz.ntmps93
      go_wp2_with fail
      refine (rnone_any a b _).mono ?_
      rintro e w1 ⟨rfl, hb1⟩
      obtain ⟨hc, hf⟩ := bcell hb1
      go_wp2_with fail
      refine (rhas_any c d a _).mono ?_
      rintro e w2 ⟨rfl, hb2⟩
      have hb3 := below_trans hb1 hb2
      clear hc hf
      obtain ⟨hc, hf⟩ := bcell hb3
      go_wp2_with fail
      refine (rhas_any c d b _).mono ?_
      rintro e w3 ⟨rfl, hb4⟩
      have hb5 := below_trans hb3 hb4
      go_wp2_with fail
      go_ret
      exact ⟨rfl, below_trans HB.out hb5⟩

theorem rleq_any (a b c d : Int) (w : World) : Calls Tryz.prog 93 #[.agg #[.int .i64 a, .int .i64 b], .agg #[.int .i64 c, .int .i64 d]] w (RetBool (leqS a b c d) w) := by
  rw [leqS_ref]
  cases h : noneS a b
  · cases h' : hasS c d a
    · exact rleq_walk a b c d w _ (Or.inr (Or.inl ⟨h, h', rfl⟩))
    · exact rleq_walk a b c d w _ (Or.inr (Or.inr ⟨h, h', rfl⟩))
  · exact rleq_walk a b c d w _ (Or.inl ⟨h, rfl⟩)

set_option maxHeartbeats 400000 in
theorem rhull_none (A : Option Addr) (cap : Nat) (w : World) : Calls Tryz.prog 128 #[.slice A 0 cap] w (RetSpan 1 0 w) := by
  go_enter Tryz.func128, Tryz.ntmps128
  go_wp2_with fail
  exact bodyPost_ret (v := .agg #[.int .i64 1, .int .i64 0]) (by simp [results, Tryz.results128, go_sem]) rfl ⟨rfl, boxed _ _⟩

/-- The least, and the greatest, as the document goes through them: from the first one on. -/
def rmn (f : Nat → Int) : Nat → Int
  | 0 => f 0
  | k + 1 => if f k < rmn f k then f k else rmn f k
def rmx (f : Nat → Int) : Nat → Int
  | 0 => f 0
  | k + 1 => if rmx f k < f k then f k else rmx f k
theorem rmn_yes {f : Nat → Int} {k : Nat} (h : f k < rmn f k) : rmn f (k + 1) = f k := if_pos h
theorem rmn_no {f : Nat → Int} {k : Nat} (h : ¬ f k < rmn f k) : rmn f (k + 1) = rmn f k := if_neg h
theorem rmx_yes {f : Nat → Int} {k : Nat} (h : rmx f k < f k) : rmx f (k + 1) = f k := if_pos h
theorem rmx_no {f : Nat → Int} {k : Nat} (h : ¬ rmx f k < f k) : rmx f (k + 1) = rmx f k := if_neg h
theorem rmn_eq (f : Nat → Int) (k : Nat) : rmn f (k + 1) = mnF f k := by
  induction k with
  | zero => show (if f 0 < f 0 then f 0 else f 0) = f 0; rw [ite_self]
  | succ k ih =>
    show (if f (k + 1) < rmn f (k + 1) then f (k + 1) else rmn f (k + 1)) = min (mnF f k) (f (k + 1))
    rw [ih]; split <;> omega
theorem rmx_eq (f : Nat → Int) (k : Nat) : rmx f (k + 1) = mxF f k := by
  induction k with
  | zero => show (if f 0 < f 0 then f 0 else f 0) = f 0; rw [ite_self]
  | succ k ih =>
    show (if rmx f (k + 1) < f (k + 1) then f (k + 1) else rmx f (k + 1)) = max (mxF f k) (f (k + 1))
    rw [ih]; split <;> omega

set_option maxHeartbeats 1600000 in
theorem rhull_some (f : Nat → Int) (b off m cap : Nat) (w : World) (hm : 0 < m) (hz : m ≤ 4611686018427387904) (hb : b < w.heap.size) (cells : ∀ j, j < m → w.cell? ⟨b, off + j, none⟩ = some (.int .i64 (f j))) :
    Calls Tryz.prog 128 #[.slice (some ⟨b, off, none⟩) m cap] w (RetSpan (ofL (rmn f m) (rmx f m)) (ofH (rmn f m) (rmx f m)) w) := by
  have c0 : w.cell? ⟨b, off, none⟩ = some (.int .i64 (f 0)) := cells 0 (by omega)
  have hm' : ((m : Int) == 0) = false := by simp; omega
  have HC := Lib.hid cells
  clear cells
  go_enter Tryz.func128, Tryz.ntmps128
  go_wp2_with fail
  go_loop [3, 4, 5] (fun lo hi i => ∃ k : Nat, k ≤ m ∧ i = .int .i64 k ∧ lo = .int .i64 (rmn f k) ∧ hi = .int .i64 (rmx f k)) (fun _ _ i => m - (intOf i).toNat)
  case atStart => exact ⟨0, Nat.zero_le _, rfl, rfl, rfl⟩
  case round =>
    obtain ⟨k, hk, rfl, rfl, rfl⟩ := hrel
    by_cases hlt : k < m
    · have hcell := HC.out k hlt
      by_cases h1 : f k < rmn f k
      · have H1 := Lib.hid (rmn_yes h1)
        by_cases h2 : rmx f k < f k
        · have H2 := Lib.hid (rmx_yes h2)
          go_wp2_with fail
          go_round
          case rel => exact ⟨k + 1, by omega, by go_num, by rw [H1.out], by rw [H2.out]⟩
          case measure => simp [intOf]; omega
        · have H2 := Lib.hid (rmx_no h2)
          go_wp2_with fail
          go_round
          case rel => exact ⟨k + 1, by omega, by go_num, by rw [H1.out], by rw [H2.out]⟩
          case measure => simp [intOf]; omega
      · have H1 := Lib.hid (rmn_no h1)
        by_cases h2 : rmx f k < f k
        · have H2 := Lib.hid (rmx_yes h2)
          go_wp2_with fail
          go_round
          case rel => exact ⟨k + 1, by omega, by go_num, by rw [H1.out], by rw [H2.out]⟩
          case measure => simp [intOf]; omega
        · have H2 := Lib.hid (rmx_no h2)
          go_wp2_with fail
          go_round
          case rel => exact ⟨k + 1, by omega, by go_num, by rw [H1.out], by rw [H2.out]⟩
          case measure => simp [intOf]; omega
    · obtain rfl : k = m := by omega
      go_wp2_with (first | (go_at_call 98; ((with_reducible refine (rof_any _ _ _).mono ?_); rintro e w1 ⟨rfl, hb1⟩); obtain ⟨hc, hf⟩ := bcell hb1))
      refine rpost_span ?_ rfl ?_
      · simp [results, Tryz.results128, go_sem, hc]
      exact (((boxed _ _).trans (hb1.mono (by simp))).setCell (by simp) _).setCell (by simp) _

theorem rhull_any (f : Nat → Int) (b off n cap : Nat) (w : World) (hz : n ≤ 4611686018427387904) (hb : 0 < n → b < w.heap.size) (cells : ∀ j, j < n → w.cell? ⟨b, off + j, none⟩ = some (.int .i64 (f j))) :
    Calls Tryz.prog 128 #[.slice (some ⟨b, off, none⟩) n cap] w (RetSpan (hullL f n) (hullH f n) w) := by
  match n with
  | 0 => exact rhull_none _ cap w
  | m + 1 =>
    have h := rhull_some f b off (m + 1) cap w (by omega) hz (hb (by omega)) cells
    rw [rmn_eq, rmx_eq] at h
    exact h
end Go.Proofs.YtimckaphmfidhaaGreatDoor.Sp
