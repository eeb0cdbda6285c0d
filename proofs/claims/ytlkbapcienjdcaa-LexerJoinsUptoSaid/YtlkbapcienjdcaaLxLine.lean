/- The lexer layer: Line of the program, and of the document. -/
import Derived.Test.YtlkbapcienjdcaaLxRefLex
namespace Go.Proofs.Ytlkbapcienjdcaa
open Go.RowKit
section
variable {W : World}
/-- The line and the column of a place, counted from 1, by going through the bytes ahead. -/
def lc : Nat → Nat → List UInt8 → Nat × Nat
  | l, k, [] => (l, k)
  | l, k, c :: r => if c = 10 then lc (l + 1) 1 r else lc l (k + 1) r
theorem lc_snoc (a b : Nat) (x : List UInt8) (c : UInt8) : lc a b (x ++ [c]) = if c = 10 then ((lc a b x).1 + 1, 1) else ((lc a b x).1, (lc a b x).2 + 1) := by
  induction x generalizing a b with
  | nil => simp only [List.nil_append, lc]
  | cons y x ih =>
    simp only [List.cons_append, lc]
    split
    · exact ih _ _
    · exact ih _ _
theorem lc_take {l : List UInt8} {k : Nat} (h : k < l.length) : lc 1 1 (l.take (k + 1)) = if l[k] = 10 then ((lc 1 1 (l.take k)).1 + 1, 1) else ((lc 1 1 (l.take k)).1, (lc 1 1 (l.take k)).2 + 1) := by
  rw [List.take_succ_eq_append_getElem h, lc_snoc]
theorem lc_le (l : List UInt8) (k : Nat) (h : k ≤ l.length) : (lc 1 1 (l.take k)).1 ≤ k + 1 ∧ (lc 1 1 (l.take k)).2 ≤ k + 1 := by
  induction k with
  | zero => simp [lc]
  | succ k ih =>
    have := ih (by omega)
    rw [lc_take (by omega)]
    split <;> (simp; omega)
/-- By counting, and by the last end. -/
theorem lc_count (s : ByteArray) (k : Nat) (h : k ≤ s.size) : (-1 ≤ Lib.lastIdx s 10 k ∧ Lib.lastIdx s 10 k < (k : Int)) ∧ ((lc 1 1 (s.data.toList.take k)).1 : Int) = 1 + ((s.data.toList.take k).count 10 : Nat) ∧ ((lc 1 1 (s.data.toList.take k)).2 : Int) = (k : Int) - Lib.lastIdx s 10 k := by
  induction k with
  | zero => simp [lc, Lib.lastIdx]
  | succ k ih =>
    obtain ⟨⟨i1, i2⟩, i3, i4⟩ := ih (by omega)
    have hk : k < s.data.toList.length := by rw [list_size]; omega
    have hb : s.data[k]! = s.data.toList[k] := by
      rw [LastIndex.byteBang s k (by omega), ← get_list s k (by omega)]
    rw [lc_take hk]
    have ht : s.data.toList.take (k + 1) = s.data.toList.take k ++ [s.data.toList[k]] := List.take_succ_eq_append_getElem hk
    rw [ht, List.count_append]
    obtain ⟨b, hbb⟩ : ∃ b, s.data.toList[k] = b := ⟨_, rfl⟩
    rw [hbb] at hb ⊢
    clear hbb ht
    by_cases e : b = 10
    · rw [Lib.lastIdx_hit s 10 k (by rw [hb, e]; rfl), if_pos e, e]
      refine ⟨⟨by omega, by omega⟩, ?_, ?_⟩
      · simp; omega
      · simp; omega
    · rw [Lib.lastIdx_miss s 10 k (by rw [hb]; exact fun h => e (UInt8.toNat_inj.1 (by rw [show b.toNat = 10 by omega]; rfl))), if_neg e]
      have h0 : List.count 10 [b] = 0 := List.count_eq_zero.2 (by simp; exact fun h => e h.symm)
      rw [h0]
      refine ⟨⟨by omega, by omega⟩, ?_, ?_⟩
      · simp; omega
      · simp; omega
/-- How many bytes are ahead of a place. -/
def cutN (n : Nat) (at_ : Int) : Nat := min n at_.toNat
set_option maxRecDepth 100000 in
set_option maxHeartbeats 1600000 in
theorem line_any (s : ByteArray) (hs : s.size ≤ 5000) (at_ : Int) (W : World) : Calls Try.prog 13 #[.string s, .int .i64 at_] W (fun e w' => e = .returned (.tuple #[.int .i64 ((lc 1 1 (s.data.toList.take (cutN s.size at_))).1 : Int), .int .i64 ((lc 1 1 (s.data.toList.take (cutN s.size at_))).2 : Int)]) ∧ w' = W) := by
  obtain ⟨n, hn⟩ : ∃ n, cutN s.size at_ = n := ⟨_, rfl⟩
  have hn2 : n ≤ s.size := by rw [← hn]; exact Nat.min_le_left _ _
  have hmm : min (max at_ 0) (s.size : Int) = (n : Int) := by rw [← hn]; unfold cutN; omega
  have hmm2 : min (max 0 at_) (s.size : Int) = (n : Int) := by rw [← hn]; unfold cutN; omega
  rw [hn]
  obtain ⟨t, ht⟩ : ∃ t, s.extract 0 n = t := ⟨_, rfl⟩
  have htl : t.data.toList = s.data.toList.take n := by rw [← ht, Lib.extract_data]; simp
  have hts : t.size = n := by rw [← ht, ByteArray.size_extract]; omega
  obtain ⟨⟨c1, c2⟩, c3, c4⟩ := lc_count t t.size (Nat.le_refl _)
  have hall : t.data.toList.take t.size = t.data.toList := by rw [← list_size, List.take_length]
  rw [hall] at c3 c4
  rw [← htl]
  have HCo : Hid (∀ w, Calls Try.prog 24 #[.string t, .string ⟨#[10]⟩] w (fun e w' => e = .returned (.int .i64 ((t.data.toList.count 10 : Nat) : Int)) ∧ w' = w)) := Lib.hid fun w => Try.strings_Count_one t 10 w
  have HLa : Hid (∀ w, Calls Try.prog 25 #[.string t, .int .u8 10] w (fun e w' => e = .returned (.int .i64 (Lib.lastIdx t 10 t.size)) ∧ w' = w)) := Lib.hid fun w => Try.strings_LastIndexByte t 10 (by omega) w
  have hcl : t.data.toList.count 10 ≤ n := by rw [← hts, ← list_size]; exact List.count_le_length
  rw [hts] at c1 c2 c4 HLa
  generalize t.data.toList.count 10 = k at *
  generalize Lib.lastIdx t 10 n = m at *
  rw [c3, c4]
  clear hall c3 c4 htl
  go_enter Try.func13, Try.ntmps13
  go_wp2_with (first
    | (go_at_call 24; with_reducible refine (HCo.out _).mono ?_; rintro e w1 ⟨rfl, rfl⟩)
    | (go_at_call 25; with_reducible refine (HLa.out _).mono ?_; rintro e w1 ⟨rfl, rfl⟩))
  go_ret2
  exact ⟨rfl, rfl⟩
set_option maxRecDepth 100000 in
set_option maxHeartbeats 3200000 in
theorem rline_any (s : ByteArray) (hs : s.size ≤ 5000) (at_ : Int) (W : World) : Calls Try.prog 14 #[.string s, .int .i64 at_] W (fun e w' => e = .returned (.tuple #[.int .i64 ((lc 1 1 (s.data.toList.take (cutN s.size at_))).1 : Int), .int .i64 ((lc 1 1 (s.data.toList.take (cutN s.size at_))).2 : Int)]) ∧ W = w') := by
  have HB : Hid (∀ i (h : i < s.size), ∃ b, s[i] = b ∧ lc 1 1 (s.data.toList.take (i + 1)) = if b = 10 then ((lc 1 1 (s.data.toList.take i)).1 + 1, 1) else ((lc 1 1 (s.data.toList.take i)).1, (lc 1 1 (s.data.toList.take i)).2 + 1)) := Lib.hid fun i h => ⟨_, rfl, by rw [← get_list s i h]; exact lc_take _⟩
  have HLe : Hid (∀ i, i ≤ s.size → (lc 1 1 (s.data.toList.take i)).1 ≤ i + 1 ∧ (lc 1 1 (s.data.toList.take i)).2 ≤ i + 1) := Lib.hid fun i h => lc_le _ _ (by rw [list_size]; exact h)
  have HC : Hid (∀ i, cutN s.size at_ = i ↔ min s.size at_.toNat = i) := Lib.hid fun i => Iff.rfl
  go_enter Try.func14, Try.ntmps14
  go_wp2
  go_loop [6, 7, 8] (fun v6 v7 v8 => ∃ i : Nat, v6 = .int .i64 ((lc 1 1 (s.data.toList.take i)).1 : Int) ∧ v7 = .int .i64 ((lc 1 1 (s.data.toList.take i)).2 : Int) ∧ v8 = .int .i64 (i : Int) ∧ i ≤ s.size ∧ i ≤ at_.toNat) (fun _ _ v8 => s.size - (RowKit.intOf v8).toNat)
  case atStart => exact ⟨0, rfl, rfl, rfl, Nat.zero_le _, Nat.zero_le _⟩
  case round =>
    obtain ⟨i, rfl, rfl, rfl, h1, h2⟩ := hrel
    obtain ⟨l1, l2⟩ := HLe.out i h1
    by_cases hi : i < s.size
    · by_cases ha : (i : Int) < at_
      · have d1 : decide ((i : Int) < (s.size : Int)) = true := decide_eq_true (by omega)
        have d2 : decide ((i : Int) < at_) = true := decide_eq_true ha
        obtain ⟨b, hb, hn⟩ := HB.out i hi
        have HN := Lib.hid hn
        clear hn
        have nat : ((b.toNat : Int) == 10) = (b == 10) := by
          rw [Bool.eq_iff_iff]
          simp
          exact ⟨fun h => UInt8.toNat_inj.1 (by rw [show b.toNat = 10 by omega]; rfl), fun h => by rw [h]; rfl⟩
        generalize (lc 1 1 (s.data.toList.take i)).1 = x at *
        generalize (lc 1 1 (s.data.toList.take i)).2 = y at *
        cases hb10 : (b == 10)
        · rw [hb10] at nat
          have HE : Hid (lc 1 1 (s.data.toList.take (i + 1)) = (x, y + 1)) := Lib.hid (by rw [HN.out, if_neg (by simpa using hb10)])
          clear hb10 HN
          go_wp2_with fail
          exact ⟨⟨i + 1, by rw [HE.out], by rw [HE.out]; go_num, by go_num, by omega, by omega⟩, by simp [RowKit.intOf]; omega⟩
        · rw [hb10] at nat
          have HE : Hid (lc 1 1 (s.data.toList.take (i + 1)) = (x + 1, 1)) := Lib.hid (by rw [HN.out, if_pos (by simpa using hb10)])
          clear hb10 HN
          go_wp2_with fail
          exact ⟨⟨i + 1, by rw [HE.out]; go_num, by rw [HE.out]; go_num, by go_num, by omega, by omega⟩, by simp [RowKit.intOf]; omega⟩
      · have d1 : decide ((i : Int) < (s.size : Int)) = true := decide_eq_true (by omega)
        have d2 : decide ((i : Int) < at_) = false := decide_eq_false ha
        have HX := Lib.hid ((HC.out i).2 (by omega))
        clear ha
        go_wp2_with fail
        go_ret2
        exact ⟨by rw [HX.out]; rfl, rfl⟩
    · have d1 : decide ((i : Int) < (s.size : Int)) = false := decide_eq_false (by omega)
      have HX := Lib.hid ((HC.out i).2 (by omega))
      have hi2 : (s.size : Int) ≤ (i : Int) := by omega
      clear hi
      go_wp2_with fail
      go_ret2
      exact ⟨by rw [HX.out]; rfl, rfl⟩
end
end Go.Proofs.Ytlkbapcienjdcaa
