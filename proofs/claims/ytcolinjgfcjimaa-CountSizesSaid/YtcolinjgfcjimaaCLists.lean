/- The contracts of within, Size and Values: what goes over all refs below one. -/
import Derived.Test.YtcolinjgfcjimaaCMet
import Derived.Test.YtcolinjgfcjimaaCTold
import Derived.Test.YtcolinjgfcjimaaShelf
namespace Go.Proofs.Ytcolinjgfcjimaa
open Go.RowKit
attribute [local go_sem ↓] Go.wp_at_zero Go.wp_at_succ

theorem isTerm_any (r : Int) (W : World) : Calls Try.prog 41 #[.int .i64 r] W (RetW (.bool (decide (r < 0))) W) := by
  go_enter Try.func41, Try.ntmps41
  go_wp2_with fail
  go_ret
  exact ⟨rfl, rfl⟩
def RetWithin (L : List Nd) (f n : Int) (w : World) (e : Ending) (w' : World) : Prop := ∃ b : Bool, e = .returned (.bool b) ∧ (b = true ↔ hasP L.length f = true ∧ ∀ r, Reach L f r → r < 0 ∨ varP L r < n) ∧ Below w.heap.size w w'
def RetSize (L : List Nd) (f : Int) (w : World) (e : Ending) (w' : World) : Prop := ∃ R : List Int, e = .returned (.int .i64 (R.countP fun r => decide (0 ≤ r))) ∧ R.Nodup ∧ (∀ r, r ∈ R ↔ Reach L f r) ∧ Below w.heap.size w w'
theorem row_cell {w w' : World} {base g n c i : Nat} {R : List Int} {r : Int} (h : w.ownsRow base 3 1 (.slice (some ⟨g, 0, none⟩) n c) n (R.map (Value.int .i64))) (hb : Below w.heap.size w w') (hr : R[i]? = some r) (hn : n = R.length) : w'.cell? ⟨g, i, none⟩ = some (.int .i64 r) := by
  have hi := (List.getElem?_eq_some_iff.1 hr).1
  exact ((own_below h hb).cellAt i (by omega)).trans (by rw [List.getElem?_map, hr]; rfl)
section
variable {W : World} {own : Nat → Prop} {p lim : Nat} {L : List Nd} {f : Int}
set_option maxRecDepth 100000 in
set_option maxHeartbeats 1600000 in
theorem within_any (h : Arena W own p lim L) (n : Int) : Calls Try.prog 36 #[.pointer (some ⟨p, 0, none⟩), .int .i64 f, .int .i64 n] W (RetWithin L f n W) := by
  cases hf : hasP L.length f with
  | false =>
    have HM := Lib.hid (met_none h hf)
    have HF := Lib.hid hf
    clear h hf
    go_enter Try.func36, Try.ntmps36
    go_wp2_with (go_at_call 40; ((with_reducible refine HM.out.mono ?_); rintro e w1 ⟨rfl, rfl⟩))
    go_loopg [15] 0 (fun gk t15 wr => t15 = .int .i64 0 ∧ wr = W)
    case atStart => exact ⟨rfl, rfl⟩
    case round =>
      obtain ⟨rfl, rfl⟩ := hrel
      go_wp2_with fail
      go_ret
      exact ⟨false, rfl, ⟨fun h => (by cases h), fun h => (by rw [HF.out] at h; cases h.1)⟩, Below.refl _ _⟩
  | true =>
    have HM := Lib.hid (met_any h hf)
    have HF := Lib.hid hf
    have HA := Lib.hid h
    have HR := Lib.hid h.right
    clear h hf
    go_enter Try.func36, Try.ntmps36
    go_wp2_with (go_at_call 40; ((with_reducible refine HM.out.mono ?_); rintro e w1 ⟨g, c, R, rfl, hrow, hb1, hnd, hrr, hlen⟩))
    have HRow := Lib.hid hrow
    have HB1 := Lib.hid hb1
    have HRR := Lib.hid hrr
    clear hrow hb1 hrr hnd
    go_loopg [15] R.length (fun gk t15 wr => ∃ i : Nat, i + gk = R.length ∧ t15 = .int .i64 (i : Int) ∧ Below w1.heap.size w1 wr ∧ ∀ j r, j < i → R[j]? = some r → r < 0 ∨ varP L r < n)
    case atStart => exact ⟨0, by omega, rfl, Below.refl _ _, fun j r hj => absurd hj (Nat.not_lt_zero _)⟩
    case round =>
      rename Nat => g0
      obtain ⟨i, hi, rfl, hbw, hall⟩ := hrel
      have HI := Lib.hid hi
      have HBw := Lib.hid (HB1.out.trans (hbw.mono HB1.out.size))
      have HB2 := Lib.hid hbw
      have HAll := Lib.hid hall
      have hAr := HA.out.below HBw.out
      clear hi hbw hall
      by_cases hir : i < R.length
      · obtain ⟨r, hr⟩ : ∃ r, R[i]? = some r := ⟨_, List.getElem?_eq_getElem hir⟩
        have HRi := Lib.hid hr
        have hce := row_cell HRow.out HB2.out hr rfl
        have HV := Lib.hid (arena_var (r := r) hAr)
        have hok : ∀ b : Prop, ((r < 0 ∨ varP L r < n) ∧ True) → ∀ j q, j < i + 1 → R[j]? = some q → q < 0 ∨ varP L q < n := fun _ h1 j q hj hq => by
          by_cases e : j = i
          · subst e
            rw [hr] at hq
            cases hq
            exact h1.1
          · exact HAll.out j q (by omega) hq
        have HOk := Lib.hid hok
        clear hAr hr hok
        by_cases hr0 : r < 0
        · have hd : decide (r < 0) = true := decide_eq_true hr0
          go_wp2_with (first
            | (go_at_call 41; ((with_reducible refine (isTerm_any _ _).mono ?_); rintro e w2 ⟨rfl, rfl⟩)))
          have hi := HI.out
          go_roundg (g0 - 1)
          case measure => omega
          case rel => exact ⟨i + 1, by omega, by simp, HB2.out, HOk.out True ⟨.inl hr0, trivial⟩⟩
        · have hd : decide (r < 0) = false := decide_eq_false hr0
          have HRb : Hid (Reach L f r) := Lib.hid ((HRR.out r).1 (List.mem_of_getElem? HRi.out))
          obtain ⟨x, hx⟩ : ∃ x, varP L r = x := ⟨_, rfl⟩
          have HX := Lib.hid hx
          rw [hx] at HV HOk
          clear hx
          by_cases hxn : n ≤ x
          · have hd2 : decide (n ≤ x) = true := decide_eq_true hxn
            go_wp2_with (first
              | (go_at_call 41; ((with_reducible refine (isTerm_any _ _).mono ?_); rintro e w2 ⟨rfl, rfl⟩))
              | (go_at_call 59; ((with_reducible refine HV.out.mono ?_); rintro e w3 ⟨rfl, rfl⟩)))
            go_ret
            exact ⟨false, rfl, ⟨fun h => (by cases h), fun h => (by have := h.2 r HRb.out; rw [HX.out] at this; omega)⟩, HBw.out⟩
          · have hd2 : decide (n ≤ x) = false := decide_eq_false hxn
            go_wp2_with (first
              | (go_at_call 41; ((with_reducible refine (isTerm_any _ _).mono ?_); rintro e w2 ⟨rfl, rfl⟩))
              | (go_at_call 59; ((with_reducible refine HV.out.mono ?_); rintro e w3 ⟨rfl, rfl⟩)))
            have hi := HI.out
            go_roundg (g0 - 1)
            case measure => omega
            case rel => exact ⟨i + 1, by omega, by simp, HB2.out, HOk.out True ⟨.inr (by omega), trivial⟩⟩
      · have hie : i = R.length := by have := HI.out; omega
        have hpos : 0 < R.length := by
          have := (HRR.out f).2 .self
          exact List.length_pos_of_mem this
        have HD : Hid (∀ r, Reach L f r → r < 0 ∨ varP L r < n) := Lib.hid fun r hr => by
          obtain ⟨j, hj⟩ := List.mem_iff_getElem?.1 ((HRR.out r).2 hr)
          exact HAll.out j r (by have := (List.getElem?_eq_some_iff.1 hj).1; omega) hj
        have hpi : (0 : Int) < (R.length : Int) := by omega
        clear hAr
        go_wp2_with fail
        go_ret
        exact ⟨true, rfl, ⟨fun _ => ⟨HF.out, HD.out⟩, fun _ => rfl⟩, HBw.out⟩
theorem count_step {R : List Int} {i : Nat} {r : Int} (hr : R[i]? = some r) (q : Int → Bool) : (R.take (i + 1)).countP q = (R.take i).countP q + if q r = true then 1 else 0 := by
  rw [List.take_add_one, hr, List.countP_append]
  simp [List.countP_cons]
set_option maxRecDepth 100000 in
set_option maxHeartbeats 1600000 in
theorem size_any (h : Arena W own p lim L) (hf : hasP L.length f = true) : Calls Try.prog 18 #[.pointer (some ⟨p, 0, none⟩), .int .i64 f] W (RetSize L f W) := by
  have HM := Lib.hid (met_any h hf)
  clear h hf
  go_enter Try.func18, Try.ntmps18
  go_wp2_with (go_at_call 40; ((with_reducible refine HM.out.mono ?_); rintro e w1 ⟨g, c, R, rfl, hrow, hb1, hnd, hrr, hlen⟩))
  have HRow := Lib.hid hrow
  have HB1 := Lib.hid hb1
  have HRR := Lib.hid (And.intro hnd hrr)
  clear hrow hb1 hrr hnd
  go_loopg [5, 12] R.length (fun gk t5 t12 wr => ∃ i : Nat, i + gk = R.length ∧ t12 = .int .i64 (i : Int) ∧ t5 = .int .i64 (((R.take i).countP fun r => decide (0 ≤ r) : Nat) : Int) ∧ Below w1.heap.size w1 wr)
  case atStart => exact ⟨0, by omega, rfl, by simp, Below.refl _ _⟩
  case round =>
    rename Nat => g0
    obtain ⟨i, hi, rfl, rfl, hbw⟩ := hrel
    have HI := Lib.hid hi
    have HB2 := Lib.hid hbw
    clear hi hbw
    by_cases hir : i < R.length
    · obtain ⟨r, hr⟩ : ∃ r, R[i]? = some r := ⟨_, List.getElem?_eq_getElem hir⟩
      have hce := row_cell HRow.out HB2.out hr rfl
      have HS := Lib.hid (count_step hr fun r => decide (0 ≤ r))
      have hle : (R.take i).countP (fun r => decide (0 ≤ r)) ≤ i := Nat.le_trans List.countP_le_length (by rw [List.length_take]; omega)
      clear hr
      obtain ⟨q, hq⟩ : ∃ q, (R.take i).countP (fun r => decide (0 ≤ r)) = q := ⟨_, rfl⟩
      rw [hq] at HS hle ⊢
      clear hq
      by_cases hr0 : r < 0
      · have hd : decide (r < 0) = true := decide_eq_true hr0
        go_wp2_with (first
          | (go_at_call 41; ((with_reducible refine (isTerm_any _ _).mono ?_); rintro e w2 ⟨rfl, rfl⟩)))
        have hi := HI.out
        go_roundg (g0 - 1)
        case measure => omega
        case rel => exact ⟨i + 1, by omega, by simp, by rw [HS.out, if_neg (by simp; omega)]; simp, HB2.out⟩
      · have hd : decide (r < 0) = false := decide_eq_false hr0
        go_wp2_with (first
          | (go_at_call 41; ((with_reducible refine (isTerm_any _ _).mono ?_); rintro e w2 ⟨rfl, rfl⟩)))
        have hi := HI.out
        go_roundg (g0 - 1)
        case measure => omega
        case rel => exact ⟨i + 1, by omega, by simp, by rw [HS.out, if_pos (by simp; omega)]; simp, HB2.out⟩
    · have hie : i = R.length := by have := HI.out; omega
      subst hie
      go_wp2_with fail
      go_ret
      exact ⟨R, by rw [List.take_length]; rfl, HRR.out.1, HRR.out.2, HB1.out.trans (HB2.out.mono HB1.out.size)⟩
theorem size_none (h : Arena W own p lim L) (hf : hasP L.length f = false) : Calls Try.prog 18 #[.pointer (some ⟨p, 0, none⟩), .int .i64 f] W (RetW (.int .i64 0) W) := by
  have HM := Lib.hid (met_none h hf)
  clear h hf
  go_enter Try.func18, Try.ntmps18
  go_wp2_with (go_at_call 40; ((with_reducible refine HM.out.mono ?_); rintro e w1 ⟨rfl, rfl⟩))
  go_loopg [5, 12] 0 (fun gk t5 t12 wr => t12 = .int .i64 0 ∧ t5 = .int .i64 0 ∧ wr = W)
  case atStart => exact ⟨rfl, rfl, rfl⟩
  case round =>
    obtain ⟨rfl, rfl, rfl⟩ := hrel
    go_wp2_with fail
    go_ret
    exact ⟨rfl, rfl⟩
end
end Go.Proofs.Ytcolinjgfcjimaa
