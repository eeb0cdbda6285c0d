/- The contract of Text, of spans. -/
import Derived.Test.YtkgdonoilpkiiaaDoorCorners
import Derived.Test.YtkgdonoilpkiiaaDoorShelf
import Derived.Test.YtkgdonoilpkiiaaDoorRefBase
import Derived.Lib.SmallJoins
import Derived.Lib.AppendIntMem
import Derived.Lib.ItoaNum
import Derived.Lib.ItoaLen
namespace Go.Proofs.YtkgdonoilpkiiaaDoor
open Go.RowKit
attribute [local go_sem ↓] Go.wp_at_zero Go.wp_at_succ eq24 eq23 neq24 eqg24 eqg23

/-- What the library's table holds. -/
def Tabs (w : World) : Prop := Lib.TabIs Tryd.prog w "internal/strconv.uint64pow10" .u64 Lib.pow10Tab
theorem gPow : Tryd.prog.globalNamed "internal/strconv.uint64pow10" = some 0 := by kernel_rfl
theorem Tabs.stays {w w' : World} (h : Tabs w) (hb : Below w.heap.size w w') : Tabs w' := Joins.tab_stays gPow h hb (Nat.le_refl _)

/-- A number's digits. -/
def itS (n : Int) : ByteArray := ⟨(Lib.itoa n).toArray⟩
theorem itS_size (n : Int) (h0 : -1152921504606846976 ≤ n) (h1 : n ≤ 1152921504606846976) : (itS n).size ≤ 21 := by
  show (Lib.itoa n).toArray.size ≤ 21
  rw [List.size_toArray]
  unfold Lib.itoa
  by_cases h : n < 0
  · rw [if_pos h, List.length_cons, Lib.decDigits_length]
    have := Lib.nDigits_le20 n.natAbs (by omega)
    omega
  · rw [if_neg h, Lib.decDigits_length]
    have := Lib.nDigits_le20 n.toNat (by omega)
    omega

/-- A string is handed back; what was there is as it was. -/
def RetStr (s : ByteArray) (w : World) (e : Ending) (w' : World) : Prop := e = .returned (.string s) ∧ Below w.heap.size w w'

set_option maxHeartbeats 400000 in
theorem text_in (n : Int) (w : World) (ht : Tabs w) (h0 : -1152921504606846976 ≤ n) (h1 : n ≤ 1152921504606846976) : Calls Tryd.prog 38 #[.int .i64 n] w (RetStr (itS n) w) := by
  have hn : nearZ n = n := by rcases nearZ_cases n with h | h | h <;> omega
  have h' : (n == 4611686018427387904) = false := by simp; omega
  have hI := Tryd.strconv_Itoa n (by omega) (by omega) w ht
  have hN := near_any n w
  rw [hn] at hN
  have H := Lib.hid hI
  have HN := Lib.hid hN
  clear ht hI hn hN
  go_enter Tryd.func38, Tryd.ntmps38
  go_wp2_with (first | (go_at_call 42; refine HN.out.mono ?_; rintro e w' ⟨rfl, rfl⟩) | (go_at_call 43; refine H.out.mono ?_; rintro e w' ⟨rfl, k, os, rfl⟩))
  go_ret
  exact ⟨rfl, Lib.below_grow _ _ (Nat.le_refl _) _ _⟩

/-- A span's signs. -/
def dotS (l h : Int) : ByteArray := (itS l ++ ⟨#[46, 46]⟩) ++ itS h
def spanS (l h : Int) : ByteArray := if noneS l h = true then ⟨#[110, 111, 110, 101]⟩ else dotS l h

theorem box_new (w : World) (t : Nat) (l h : Int) : Box (w.alloc (.cells #[.int .i64 l, .int .i64 h] t)) w.heap.size l h := by
  refine ⟨?_, ?_, ?_, ?_, ?_⟩ <;> go_simp

theorem box_put {w : World} {n : Nat} {l h : Int} (x : Box w n l h) (l' h' : Int) : n < ((w.setCell ⟨n, 0, none⟩ (.int .i64 l')).setCell ⟨n, 1, none⟩ (.int .i64 h')).heap.size ∧ ((w.setCell ⟨n, 0, none⟩ (.int .i64 l')).setCell ⟨n, 1, none⟩ (.int .i64 h')).cell? ⟨n, 0, none⟩ = some (.int .i64 l') ∧ ((w.setCell ⟨n, 0, none⟩ (.int .i64 l')).setCell ⟨n, 1, none⟩ (.int .i64 h')).cell? ⟨n, 1, none⟩ = some (.int .i64 h') := by
  obtain ⟨h1, h2, h3, h4, h5⟩ := x
  refine ⟨?_, ?_, ?_⟩ <;> go_simp

set_option maxHeartbeats 1600000 in
theorem stext_none (l h : Int) (w : World) (hn : sameB (tkL l h) (tkH l h) 1 0 = true) : Calls Tryd.prog 23 #[.agg #[.int .i64 l, .int .i64 h]] w (RetStr ⟨#[110, 111, 110, 101]⟩ w) := by
  go_enter Tryd.func23, Tryd.ntmps23
  go_wp2_with (first | (go_at_call 12; ((with_reducible refine (taken_any _ _ _).mono ?_); rintro e w1 ⟨rfl, hb1⟩); have HX1 := Lib.hid ((box_new w 24 l h).below hb1); obtain ⟨hz, x0, x1, x2, x3⟩ := HX1.out))
  go_region_held3 (fun w' => w.heap.size < w'.heap.size ∧ w'.cell? ⟨w.heap.size, 0, none⟩ = some (.int .i64 (tkL l h)) ∧ w'.cell? ⟨w.heap.size, 1, none⟩ = some (.int .i64 (tkH l h))) (first | (exact keep_one hb2 (by assumption)) | (exact box_put HX1.out _ _) | go_keep)
    (first | (go_at_call 9; ((with_reducible refine (empty_any _).mono ?_); rintro e w2 ⟨rfl, hb2⟩)))
  go_wp2_with fail
  go_ret
  exact ⟨rfl, below_trans ((((boxed _ _).trans (hb1.mono (by simp))).setCell (by simp) _).setCell (by simp) _).drew hb2⟩

set_option maxHeartbeats 3200000 in
theorem stext_some (l h : Int) (w : World) (ht : Tabs w) (hn : sameB l h 1 0 = false) (hr : rightS l h = true) (hl0 : -1152921504606846976 ≤ l) (hlh : l ≤ h) (hh1 : h ≤ 1152921504606846976) : Calls Tryd.prog 23 #[.agg #[.int .i64 l, .int .i64 h]] w (RetStr (dotS l h) w) := by
  have HT := Lib.hid ht
  have HR := Lib.hid (fun w => taken_yes l h w hr)
  have s1 := itS_size l (by omega) (by omega)
  have s2 := itS_size h (by omega) (by omega)
  have s3 : ¬ 9223372036854775807 < (itS l).size + 2 := by omega
  have s4 : ¬ 9223372036854775807 < (itS l).size + 2 + (itS h).size := by omega
  clear s1 s2
  clear ht hr
  go_enter Tryd.func23, Tryd.ntmps23
  go_wp2_with (first | (go_at_call 12; ((with_reducible refine (HR.out _).mono ?_); rintro e w1 ⟨rfl, hb1⟩); have HX1 := Lib.hid ((box_new w 24 l h).below hb1); obtain ⟨hz, x0, x1, x2, x3⟩ := HX1.out))
  go_region_held3 (fun w' => w.heap.size < w'.heap.size ∧ w'.cell? ⟨w.heap.size, 0, none⟩ = some (.int .i64 l) ∧ w'.cell? ⟨w.heap.size, 1, none⟩ = some (.int .i64 h)) (first | (exact keep_one hb2 (by assumption)) | (exact box_put HX1.out _ _) | go_keep)
    (first | (go_at_call 9; ((with_reducible refine (empty_any _).mono ?_); rintro e w2 ⟨rfl, hb2⟩)))
  have HB := Lib.hid (show Below w.heap.size w w2 from below_trans ((((boxed _ _).trans (hb1.mono (by simp))).setCell (by simp) _).setCell (by simp) _).drew hb2)
  have HT2 := Lib.hid (show Tabs w2.drew from HT.out.stays HB.out.drew)
  clear hb1 hb2 hz x0 x1 x2 x3
  go_wp2_with fail
  go_region_held3 (fun w' => w.heap.size < w'.heap.size ∧ w'.cell? ⟨w.heap.size, 0, none⟩ = some (.int .i64 l) ∧ w'.cell? ⟨w.heap.size, 1, none⟩ = some (.int .i64 h)) (first | (exact keep_one hb4 (by assumption)) | (exact keep_one hb3 (by assumption)) | go_keep)
    (first
      | (go_at_call 38; ((with_reducible refine (text_in l _ HT2.out (by omega) (by omega)).mono ?_); rintro e w3 ⟨rfl, hb3⟩); have HT3 := Lib.hid (HT2.out.stays hb3))
      | (go_at_call 38; ((with_reducible refine (text_in h _ HT3.out (by omega) (by omega)).mono ?_); rintro e w4 ⟨rfl, hb4⟩)))
  go_wp2_with fail
  go_ret
  exact ⟨rfl, below_trans HB.out.drew (below_trans hb3 hb4)⟩

theorem stext_any (l h : Int) (w : World) (ht : Tabs w) : Calls Tryd.prog 23 #[.agg #[.int .i64 l, .int .i64 h]] w (RetStr (spanS l h) w) := by
  unfold spanS
  cases hn : noneS l h
  · obtain ⟨h0, h1, h2, e1, e2, hr⟩ := noneS_no hn
    rw [if_neg (by simp)]
    have hs : sameB l h 1 0 = false := by unfold noneS at hn; rw [e1, e2] at hn; exact hn
    exact stext_some l h w ht hs hr h0 h2 h1
  · rw [if_pos rfl]
    exact stext_none l h w hn
end Go.Proofs.YtkgdonoilpkiiaaDoor
