/- The contract of the document's Parse. -/
import Derived.Test.YtnokpnhggfemiaaDoorRefDigits
import Derived.Test.YtnokpnhggfemiaaDoorNumerals
import Derived.LoopTactic
namespace Go.Proofs.YtnokpnhggfemiaaDoor
open Go.RowKit

/-- The digits gone through from the left: what they spell, or that there is a sign that is none, or too many. -/
def loopZ : List UInt8 → Int → Option Int
  | [], n => some n
  | c :: r, n => if (c.toNat : Int) < 48 ∨ 57 < (c.toNat : Int) ∨ 230584300921369395 < n then none else loopZ r (n * 10 + ((c.toNat : Int) - 48))

/-- What is answered of what was spelled. -/
def endZ (l : List UInt8) (n : Int) : Option Int := if rightB n = true ∧ Lib.itoa n = l then some n else none

def optRet : Option Int → Ending
  | some n => calcRet n 0
  | none => calcRet 0 1

theorem drop_at (s : ByteArray) (k : Nat) (h : k < s.size) : s.data.toList.drop k = s[k] :: s.data.toList.drop (k + 1) := by
  rw [List.drop_eq_getElem_cons (by simpa using h)]; rfl

theorem loopZ_stop {c : UInt8} {r : List UInt8} {n : Int} (h : (c.toNat : Int) < 48 ∨ 57 < (c.toNat : Int) ∨ 230584300921369395 < n) : loopZ (c :: r) n = none := if_pos h
theorem loopZ_on {c : UInt8} {r : List UInt8} {n : Int} (h1 : ¬ (c.toNat : Int) < 48) (h2 : ¬ 57 < (c.toNat : Int)) (h3 : ¬ 230584300921369395 < n) : loopZ (c :: r) n = loopZ r (n * 10 + ((c.toNat : Int) - 48)) := if_neg (by omega)

/-- What holds at a round's head. -/
def ParseRel (s : ByteArray) (R : Option Int) (nv iv : Value) : Prop := ∃ (k : Nat) (n : Int), nv = .int .i64 n ∧ iv = .int .i64 k ∧ k ≤ s.size ∧ 0 ≤ n ∧ n ≤ 2305843009213693959 ∧ loopZ (s.data.toList.drop k) n = R

theorem endZ_no {l : List UInt8} {n : Int} (h : rightB n = false) : endZ l n = none := if_neg (by simp [h])
theorem endZ_off {l : List UInt8} {n : Int} (h : (Lib.itoa n == l) = false) : endZ l n = none := if_neg (by simp at h; simp [h])
theorem endZ_yes {l : List UInt8} {n : Int} (h : rightB n = true) (h' : (Lib.itoa n == l) = true) : endZ l n = some n := if_pos ⟨h, by simpa using h'⟩

set_option maxHeartbeats 4000000 in
theorem rparse_empty (s : ByteArray) (w : World) (hs : (s.toList == [110, 111, 110, 101]) = false) (hh : s.size = 0) :
    Calls Tryd.prog 25 #[.string s] w fun e w' => e = optRet ((loopZ s.data.toList 0).bind (endZ s.toList)) ∧ w = w' := by
  have HR : ParseRel s (loopZ s.data.toList 0) (.int .i64 0) (.int .i64 0) := ⟨0, 0, rfl, rfl, by omega, by omega, by omega, rfl⟩
  generalize loopZ s.data.toList 0 = R at HR ⊢
  go_enter Tryd.func25, Tryd.ntmps25
  go_wp2
  go_loop [5, 6] (fun nv iv => ParseRel s R nv iv) (fun _ iv => s.size - (intOf iv).toNat)
  case atStart => exact HR
  case round =>
    clear HR
    obtain ⟨k, n, rfl, rfl, hk, hn0, hn1, hL⟩ := hrel
    have HL := Lib.hid hL
    clear hL
    by_cases hlt : k < s.size
    · omega
    · obtain rfl : k = s.size := by omega
      have HN : R = some n := by rw [← HL.out, List.drop_eq_nil_of_le (by simp)]; rfl
      subst HN
      clear HL
      have hN : (n == 4611686018427387904) = false := by simp; omega
      cases hr : rightB n
      · have HE := Lib.hid (endZ_no (l := s.toList) hr)
        go_wp2_with (first | (go_at_call 16; refine (rright_any _ _).mono ?_; rintro e w' ⟨rfl, rfl⟩) | (go_at_call 32; refine (none_any _).mono ?_; rintro e w' ⟨rfl, rfl⟩) | (go_at_call 35; refine (rdigits_any _ _ (by omega) (by omega)).mono ?_; rintro e w' ⟨rfl, rfl⟩))
        go_ret2
        exact ⟨by show _ = optRet (endZ s.toList n); rw [HE.out]; rfl, rfl⟩
      · cases hi : (Lib.itoa n == s.toList)
        · have HE := Lib.hid (endZ_off hi)
          go_wp2_with (first | (go_at_call 16; refine (rright_any _ _).mono ?_; rintro e w' ⟨rfl, rfl⟩) | (go_at_call 32; refine (none_any _).mono ?_; rintro e w' ⟨rfl, rfl⟩) | (go_at_call 35; refine (rdigits_any _ _ (by omega) (by omega)).mono ?_; rintro e w' ⟨rfl, rfl⟩))
          go_ret2
          exact ⟨by show _ = optRet (endZ s.toList n); rw [HE.out]; rfl, rfl⟩
        · have HE := Lib.hid (endZ_yes hr hi)
          go_wp2_with (first | (go_at_call 16; refine (rright_any _ _).mono ?_; rintro e w' ⟨rfl, rfl⟩) | (go_at_call 32; refine (none_any _).mono ?_; rintro e w' ⟨rfl, rfl⟩) | (go_at_call 35; refine (rdigits_any _ _ (by omega) (by omega)).mono ?_; rintro e w' ⟨rfl, rfl⟩))
          go_ret2
          exact ⟨by show _ = optRet (endZ s.toList n); rw [HE.out]; rfl, rfl⟩

set_option maxHeartbeats 4000000 in
theorem rparse_pos (s : ByteArray) (w : World) (hz : s.size ≤ 100) (hs : (s.toList == [110, 111, 110, 101]) = false) (hh : 0 < s.size) (hc : ((s[0].toNat : Int) == 45) = false) :
    Calls Tryd.prog 25 #[.string s] w fun e w' => e = optRet ((loopZ s.data.toList 0).bind (endZ s.toList)) ∧ w = w' := by
  have HR : ParseRel s (loopZ s.data.toList 0) (.int .i64 0) (.int .i64 0) := ⟨0, 0, rfl, rfl, by omega, by omega, by omega, rfl⟩
  generalize loopZ s.data.toList 0 = R at HR ⊢
  go_enter Tryd.func25, Tryd.ntmps25
  go_wp2
  go_loop [5, 6] (fun nv iv => ParseRel s R nv iv) (fun _ iv => s.size - (intOf iv).toNat)
  case atStart => exact HR
  case round =>
    clear HR
    obtain ⟨k, n, rfl, rfl, hk, hn0, hn1, hL⟩ := hrel
    have HL := Lib.hid hL
    clear hL
    by_cases hlt : k < s.size
    · have HD := Lib.hid (drop_at s k hlt)
      by_cases c1 : (s[k].toNat : Int) < 48
      · have HN : R = none := by rw [← HL.out, HD.out]; exact loopZ_stop (Or.inl c1)
        subst HN
        go_wp2_with (go_at_call 31; refine (edge_any _).mono ?_; rintro e w' ⟨rfl, rfl⟩)
        go_ret2
        exact ⟨rfl, rfl⟩
      · by_cases c2 : 57 < (s[k].toNat : Int)
        · have HN : R = none := by rw [← HL.out, HD.out]; exact loopZ_stop (Or.inr (Or.inl c2))
          subst HN
          go_wp2_with (go_at_call 31; refine (edge_any _).mono ?_; rintro e w' ⟨rfl, rfl⟩)
          go_ret2
          exact ⟨rfl, rfl⟩
        · by_cases c3 : 230584300921369395 < n
          · have HN : R = none := by rw [← HL.out, HD.out]; exact loopZ_stop (Or.inr (Or.inr c3))
            subst HN
            go_wp2_with (go_at_call 31; refine (edge_any _).mono ?_; rintro e w' ⟨rfl, rfl⟩)
            go_ret2
            exact ⟨rfl, rfl⟩
          · have HO := Lib.hid (loopZ_on (r := s.data.toList.drop (k + 1)) c1 c2 c3)
            go_wp2_with (go_at_call 31; refine (edge_any _).mono ?_; rintro e w' ⟨rfl, rfl⟩)
            exact ⟨⟨k + 1, _, rfl, by go_num, by omega, by omega, by omega, by rw [← HO.out, ← HD.out]; exact HL.out⟩, by simp [intOf]; omega⟩
    · obtain rfl : k = s.size := by omega
      have HN : R = some n := by rw [← HL.out, List.drop_eq_nil_of_le (by simp)]; rfl
      subst HN
      clear HL
      have hN : (n == 4611686018427387904) = false := by simp; omega
      cases hr : rightB n
      · have HE := Lib.hid (endZ_no (l := s.toList) hr)
        go_wp2_with (first | (go_at_call 16; refine (rright_any _ _).mono ?_; rintro e w' ⟨rfl, rfl⟩) | (go_at_call 32; refine (none_any _).mono ?_; rintro e w' ⟨rfl, rfl⟩) | (go_at_call 35; refine (rdigits_any _ _ (by omega) (by omega)).mono ?_; rintro e w' ⟨rfl, rfl⟩))
        go_ret2
        exact ⟨by show _ = optRet (endZ s.toList n); rw [HE.out]; rfl, rfl⟩
      · cases hi : (Lib.itoa n == s.toList)
        · have HE := Lib.hid (endZ_off hi)
          go_wp2_with (first | (go_at_call 16; refine (rright_any _ _).mono ?_; rintro e w' ⟨rfl, rfl⟩) | (go_at_call 32; refine (none_any _).mono ?_; rintro e w' ⟨rfl, rfl⟩) | (go_at_call 35; refine (rdigits_any _ _ (by omega) (by omega)).mono ?_; rintro e w' ⟨rfl, rfl⟩))
          go_ret2
          exact ⟨by show _ = optRet (endZ s.toList n); rw [HE.out]; rfl, rfl⟩
        · have HE := Lib.hid (endZ_yes hr hi)
          go_wp2_with (first | (go_at_call 16; refine (rright_any _ _).mono ?_; rintro e w' ⟨rfl, rfl⟩) | (go_at_call 32; refine (none_any _).mono ?_; rintro e w' ⟨rfl, rfl⟩) | (go_at_call 35; refine (rdigits_any _ _ (by omega) (by omega)).mono ?_; rintro e w' ⟨rfl, rfl⟩))
          go_ret2
          exact ⟨by show _ = optRet (endZ s.toList n); rw [HE.out]; rfl, rfl⟩

set_option maxHeartbeats 4000000 in
theorem rparse_neg (s : ByteArray) (w : World) (hz : s.size ≤ 100) (hs : (s.toList == [110, 111, 110, 101]) = false) (hh : 0 < s.size) (hc : ((s[0].toNat : Int) == 45) = true) :
    Calls Tryd.prog 25 #[.string s] w fun e w' => e = optRet ((loopZ (s.data.toList.drop 1) 0).bind fun n => endZ s.toList (-n)) ∧ w = w' := by
  have HR : ParseRel s (loopZ (s.data.toList.drop 1) 0) (.int .i64 0) (.int .i64 1) := ⟨1, 0, rfl, rfl, by omega, by omega, by omega, rfl⟩
  generalize loopZ (s.data.toList.drop 1) 0 = R at HR ⊢
  go_enter Tryd.func25, Tryd.ntmps25
  go_wp2
  go_loop [5, 6] (fun nv iv => ParseRel s R nv iv) (fun _ iv => s.size - (intOf iv).toNat)
  case atStart => exact HR
  case round =>
    clear HR
    obtain ⟨k, n, rfl, rfl, hk, hn0, hn1, hL⟩ := hrel
    have HL := Lib.hid hL
    clear hL
    by_cases hlt : k < s.size
    · have HD := Lib.hid (drop_at s k hlt)
      by_cases c1 : (s[k].toNat : Int) < 48
      · have HN : R = none := by rw [← HL.out, HD.out]; exact loopZ_stop (Or.inl c1)
        subst HN
        go_wp2_with (go_at_call 31; refine (edge_any _).mono ?_; rintro e w' ⟨rfl, rfl⟩)
        go_ret2
        exact ⟨rfl, rfl⟩
      · by_cases c2 : 57 < (s[k].toNat : Int)
        · have HN : R = none := by rw [← HL.out, HD.out]; exact loopZ_stop (Or.inr (Or.inl c2))
          subst HN
          go_wp2_with (go_at_call 31; refine (edge_any _).mono ?_; rintro e w' ⟨rfl, rfl⟩)
          go_ret2
          exact ⟨rfl, rfl⟩
        · by_cases c3 : 230584300921369395 < n
          · have HN : R = none := by rw [← HL.out, HD.out]; exact loopZ_stop (Or.inr (Or.inr c3))
            subst HN
            go_wp2_with (go_at_call 31; refine (edge_any _).mono ?_; rintro e w' ⟨rfl, rfl⟩)
            go_ret2
            exact ⟨rfl, rfl⟩
          · have HO := Lib.hid (loopZ_on (r := s.data.toList.drop (k + 1)) c1 c2 c3)
            go_wp2_with (go_at_call 31; refine (edge_any _).mono ?_; rintro e w' ⟨rfl, rfl⟩)
            exact ⟨⟨k + 1, _, rfl, by go_num, by omega, by omega, by omega, by rw [← HO.out, ← HD.out]; exact HL.out⟩, by simp [intOf]; omega⟩
    · obtain rfl : k = s.size := by omega
      have HN : R = some n := by rw [← HL.out, List.drop_eq_nil_of_le (by simp)]; rfl
      subst HN
      clear HL
      have hN : ((-n) == 4611686018427387904) = false := by simp; omega
      cases hr : rightB (-n)
      · have HE := Lib.hid (endZ_no (l := s.toList) hr)
        go_wp2_with (first | (go_at_call 16; refine (rright_any _ _).mono ?_; rintro e w' ⟨rfl, rfl⟩) | (go_at_call 32; refine (none_any _).mono ?_; rintro e w' ⟨rfl, rfl⟩) | (go_at_call 35; refine (rdigits_any _ _ (by omega) (by omega)).mono ?_; rintro e w' ⟨rfl, rfl⟩))
        go_ret2
        exact ⟨by show _ = optRet (endZ s.toList (-n)); rw [HE.out]; rfl, rfl⟩
      · cases hi : (Lib.itoa (-n) == s.toList)
        · have HE := Lib.hid (endZ_off hi)
          go_wp2_with (first | (go_at_call 16; refine (rright_any _ _).mono ?_; rintro e w' ⟨rfl, rfl⟩) | (go_at_call 32; refine (none_any _).mono ?_; rintro e w' ⟨rfl, rfl⟩) | (go_at_call 35; refine (rdigits_any _ _ (by omega) (by omega)).mono ?_; rintro e w' ⟨rfl, rfl⟩))
          go_ret2
          exact ⟨by show _ = optRet (endZ s.toList (-n)); rw [HE.out]; rfl, rfl⟩
        · have HE := Lib.hid (endZ_yes hr hi)
          go_wp2_with (first | (go_at_call 16; refine (rright_any _ _).mono ?_; rintro e w' ⟨rfl, rfl⟩) | (go_at_call 32; refine (none_any _).mono ?_; rintro e w' ⟨rfl, rfl⟩) | (go_at_call 35; refine (rdigits_any _ _ (by omega) (by omega)).mono ?_; rintro e w' ⟨rfl, rfl⟩))
          go_ret2
          exact ⟨by show _ = optRet (endZ s.toList (-n)); rw [HE.out]; rfl, rfl⟩

set_option maxHeartbeats 1000000 in
theorem rparse_none (w : World) : Calls Tryd.prog 25 #[.string ⟨#[110, 111, 110, 101]⟩] w fun e w' => e = calcRet 4611686018427387904 0 ∧ w = w' := by
  go_enter Tryd.func25, Tryd.ntmps25
  go_wp2_with (go_at_call 32; refine (none_any _).mono ?_; rintro e w' ⟨rfl, rfl⟩)
  go_ret2
  exact ⟨rfl, rfl⟩
end Go.Proofs.YtnokpnhggfemiaaDoor
