/- Put together of: LxSmall, LxFirst, LxPiece. -/
import Derived.Test.YteaongdlbleehaaGreatDoorProg
import Derived.Test.YteaongdlbleehaaGreatDoorGLxMath
import Derived.WalkKit
import Derived.WalkSpells
import Derived.BigQuiet
import Derived.Deep.QuietTactic
import Derived.Below
import Derived.Lib.OthersKept
import Derived.Lib.Strings
import Derived.Lib.Hide
import Derived.Shelf.Strings.LastIndex
import Derived.Lib.SmallJoins
/- The lexer layer: what a letter, a digit, a sign is. -/
namespace Go.Proofs.YteaongdlbleehaaGreatDoor
open Go.RowKit
section
def oneL : List UInt8 := [123, 125, 40, 41, 91, 93, 59, 58, 44, 61, 60, 62, 43, 45, 42, 47, 33]
set_option maxHeartbeats 800000 in
theorem isLetter_any (n : Nat) (W : World) : Calls Tryz.prog 67 #[.int .i32 (n : Int)] W (fun e w' => e = .returned (.bool (letterN n)) ∧ W = w') := by
  go_enter Tryz.func67, Tryz.ntmps67
  go_wp2
  all_goals go_ret
  all_goals (refine ⟨?_, rfl⟩; show Ending.returned (Value.bool _) = _; unfold letterN; congr 2; rw [Bool.eq_iff_iff]; simp; omega)
set_option maxHeartbeats 800000 in
theorem isDigit_any (n : Nat) (W : World) : Calls Tryz.prog 68 #[.int .i32 (n : Int)] W (fun e w' => e = .returned (.bool (digitN n)) ∧ W = w') := by
  go_enter Tryz.func68, Tryz.ntmps68
  go_wp2
  all_goals go_ret
  all_goals (refine ⟨?_, rfl⟩; show Ending.returned (Value.bool _) = _; unfold digitN; congr 2; rw [Bool.eq_iff_iff]; simp; omega)
set_option maxHeartbeats 800000 in
theorem letter_any (c : UInt8) (W : World) : Calls Tryz.prog 114 #[.int .u8 (c.toNat : Int)] W (fun e w' => e = .returned (.bool (letterB c)) ∧ W = w') := by
  go_enter Tryz.func114, Tryz.ntmps114
  go_wp2
  all_goals go_ret
  all_goals (refine ⟨?_, rfl⟩; show Ending.returned (Value.bool _) = _; unfold letterB; congr 2; rw [Bool.eq_iff_iff]; simp; omega)
set_option maxHeartbeats 800000 in
theorem digit_any (c : UInt8) (W : World) : Calls Tryz.prog 115 #[.int .u8 (c.toNat : Int)] W (fun e w' => e = .returned (.bool (digitB c)) ∧ W = w') := by
  go_enter Tryz.func115, Tryz.ntmps115
  go_wp2
  all_goals go_ret
  all_goals (refine ⟨?_, rfl⟩; show Ending.returned (Value.bool _) = _; unfold digitB; congr 2; rw [Bool.eq_iff_iff]; simp; omega)
set_option maxHeartbeats 1600000 in
theorem two_any' (s : ByteArray) (W : World) : Calls Tryz.prog 117 #[.string s] W (fun e w' => e = .returned (.bool (decide (s.data.toList = [61, 61]) || decide (s.data.toList = [33, 61]) || decide (s.data.toList = [60, 61]) || decide (s.data.toList = [62, 61]) || decide (s.data.toList = [38, 38]) || decide (s.data.toList = [124, 124]))) ∧ W = w') := by
  go_enter Tryz.func117, Tryz.ntmps117
  go_wp2
  all_goals go_ret
  all_goals (refine ⟨?_, rfl⟩; show Ending.returned (Value.bool _) = _; congr 2; rw [Bool.eq_iff_iff]; simp only [← ByteArray.toList_eq]; simp_all)
theorem signL_iff (l : List UInt8) : signL l = true ↔ (l = [123] ∨ l = [125] ∨ l = [40] ∨ l = [41] ∨ l = [91] ∨ l = [93] ∨ l = [59] ∨ l = [58] ∨ l = [44] ∨ l = [61] ∨ l = [61, 61] ∨ l = [33, 61] ∨ l = [60] ∨ l = [60, 61] ∨ l = [62] ∨ l = [62, 61] ∨ l = [43] ∨ l = [45] ∨ l = [42] ∨ l = [47] ∨ l = [33] ∨ l = [38, 38] ∨ l = [124, 124]) := by
  match l with
  | [] => simp [signL]
  | [a] =>
    simp only [signL, oneB]
    simp
  | [a, b] =>
    simp only [signL, twoB]
    simp
    constructor
    · rintro ((⟨((h | h) | h) | h, k⟩ | ⟨h, k⟩) | ⟨h, k⟩) <;> simp [h, k]
    · rintro (⟨h, k⟩ | ⟨h, k⟩ | ⟨h, k⟩ | ⟨h, k⟩ | ⟨h, k⟩ | ⟨h, k⟩) <;> simp [h, k]
  | a :: b :: c :: r => simp [signL]
set_option maxHeartbeats 1600000 in
theorem isSign_any (s : ByteArray) (W : World) : Calls Tryz.prog 70 #[.string s] W (fun e w' => e = .returned (.bool (signL s.data.toList)) ∧ W = w') := by
  go_enter Tryz.func70, Tryz.ntmps70
  go_wp2
  all_goals go_ret
  all_goals (refine ⟨?_, rfl⟩; show Ending.returned (Value.bool _) = _; congr 2; rw [Bool.eq_iff_iff, signL_iff, ← ByteArray.toList_eq]; simp only [beq_iff_eq, beq_eq_false_iff_ne, ne_eq] at *; simp_all)
/-- The document's two, of what is cut out. -/
theorem two_any (a b : UInt8) (s : ByteArray) (hs : s.data.toList = [a, b]) (W : World) : Calls Tryz.prog 117 #[.string s] W (fun e w' => e = .returned (.bool (twoB a b)) ∧ W = w') := by
  refine (two_any' s W).mono fun e w' ⟨h1, h2⟩ => ⟨?_, h2⟩
  rw [h1, hs]
  congr 2
  unfold twoB
  rw [Bool.eq_iff_iff]
  simp
  constructor
  · rintro (((((⟨h, k⟩ | ⟨h, k⟩) | ⟨h, k⟩) | ⟨h, k⟩) | ⟨h, k⟩) | ⟨h, k⟩) <;> simp [h, k]
  · rintro ((⟨((h | h) | h) | h, k⟩ | ⟨h, k⟩) | ⟨h, k⟩) <;> simp [h, k]
theorem one_at {k : Nat} (hk : k < 17) : (({ data := #[123, 125, 40, 41, 91, 93, 59, 58, 44, 61, 60, 62, 43, 45, 42, 47, 33] } : ByteArray)[k]'hk) = oneL[k]'hk := rfl
theorem one_yes {c : UInt8} {k : Nat} (hk : k < 17) (h : (((({ data := #[123, 125, 40, 41, 91, 93, 59, 58, 44, 61, 60, 62, 43, 45, 42, 47, 33] } : ByteArray)[k]'hk).toNat : Int) == (c.toNat : Int)) = true) : oneB c = true := by
  have h := eq_of_beq h
  rw [one_at hk] at h
  have e : oneL[k]'hk = c := UInt8.toNat_inj.1 (by omega)
  show oneL.contains c = true
  rw [List.contains_iff_mem, ← e]
  exact List.getElem_mem _
theorem one_no {c : UInt8} {k : Nat} (hk : k < 17) (h : (((({ data := #[123, 125, 40, 41, 91, 93, 59, 58, 44, 61, 60, 62, 43, 45, 42, 47, 33] } : ByteArray)[k]'hk).toNat : Int) == (c.toNat : Int)) = false) : oneL[k]? ≠ some c := by
  have h := ne_of_beq_false h
  rw [one_at hk] at h
  rw [List.getElem?_eq_getElem hk]
  intro e
  exact h (by rw [Option.some.inj e])
theorem one_none {c : UInt8} (h : ∀ j, j < 17 → oneL[j]? ≠ some c) : oneB c = false := by
  cases q : oneB c with
  | false => rfl
  | true =>
    have q' : oneL.contains c = true := q
    rw [List.contains_iff_mem] at q'
    obtain ⟨i, hi, e⟩ := List.getElem_of_mem q'
    exact absurd (by rw [List.getElem?_eq_getElem hi, e]) (h i hi)
set_option maxHeartbeats 1600000 in
theorem one_any (c : UInt8) (W : World) : Calls Tryz.prog 118 #[.int .u8 (c.toNat : Int)] W (fun e w' => e = .returned (.bool (oneB c)) ∧ W = w') := by
  go_enter Tryz.func118, Tryz.ntmps118
  go_wp2
  go_loop [4] (fun i => ∃ k : Nat, k ≤ 17 ∧ i = .int .i64 (k : Int) ∧ ∀ j, j < k → oneL[j]? ≠ some c) (fun i => 17 - (RowKit.intOf i).toNat)
  case atStart => exact ⟨0, by omega, rfl, fun j h => by omega⟩
  case round =>
    obtain ⟨k, hk, rfl, hj⟩ := hrel
    go_wp2
    · have hk2 : k < 17 := by omega
      have h : (((({ data := #[123, 125, 40, 41, 91, 93, 59, 58, 44, 61, 60, 62, 43, 45, 42, 47, 33] } : ByteArray)[k]'(by exact hk2)).toNat : Int) == (c.toNat : Int)) = true := by assumption
      go_ret
      refine ⟨?_, rfl⟩
      rw [one_yes hk2 h]
      rfl
    · have hk2 : k < 17 := by omega
      have h : (((({ data := #[123, 125, 40, 41, 91, 93, 59, 58, 44, 61, 60, 62, 43, 45, 42, 47, 33] } : ByteArray)[k]'(by exact hk2)).toNat : Int) == (c.toNat : Int)) = false := by assumption
      refine ⟨⟨k + 1, by omega, by go_num, fun j hj2 => ?_⟩, by simp [RowKit.intOf]; omega⟩
      rcases Nat.lt_succ_iff_lt_or_eq.1 hj2 with h2 | rfl
      · exact hj j h2
      · exact one_no hk2 h
    · have hk2 : k = 17 := by omega
      subst hk2
      go_ret
      refine ⟨?_, rfl⟩
      rw [one_none hj]
      rfl
end
end Go.Proofs.YteaongdlbleehaaGreatDoor

/- The lexer layer: goesOn, first. -/
namespace Go.Proofs.YteaongdlbleehaaGreatDoor
open Go.RowKit
section
variable {c : UInt8} {r : List UInt8}
theorem letter_nat (c : UInt8) : letterN c.toNat = letterB c := rfl
theorem encode_four (n : Nat) : (Utf8.encode (n : Int)).size ≤ 4 := by
  unfold Utf8.encode
  simp only
  generalize (if Utf8.valid (n : Int) = true then (n : Int).toNat else Utf8.runeError) = c
  have h1 : ∀ a : UInt8, (⟨#[a]⟩ : ByteArray).size = 1 := fun _ => rfl
  have h2 : ∀ a b : UInt8, (⟨#[a, b]⟩ : ByteArray).size = 2 := fun _ _ => rfl
  have h3 : ∀ a b c : UInt8, (⟨#[a, b, c]⟩ : ByteArray).size = 3 := fun _ _ _ => rfl
  have h4 : ∀ a b c d : UInt8, (⟨#[a, b, c, d]⟩ : ByteArray).size = 4 := fun _ _ _ _ => rfl
  repeat' split
  all_goals simp only [h1, h2, h3, h4]
  all_goals omega
theorem digit_nat (c : UInt8) : digitN c.toNat = digitB c := rfl
set_option maxRecDepth 100000 in
set_option maxHeartbeats 3200000 in
theorem goesOn_any (b : ByteArray) (c : UInt8) (r : List UInt8) (n : Nat) (hbs : b.size ≤ 5000) (hl : b.data.toList = c :: r) (W : World) : Calls Tryz.prog 65 #[.string b, .int .i32 (n : Int)] W (fun e w' => e = .returned (.bool (goesL b.data.toList n)) ∧ W = w') := by
  have hb : 0 < b.size := by rw [← list_size, hl]; simp
  have hc : b[0] = c := by rw [← get_list b 0 hb]; simp [hl]
  have hlt : ((b[0]).toNat : Int) ≤ 255 := by have := (b[0]).toNat_lt; omega
  obtain ⟨k, hk⟩ : ∃ k, (b[0]).toNat = k := ⟨_, rfl⟩
  rw [hk] at hlt
  have hck : c.toNat = k := by rw [← hc]; exact hk
  clear hc
  have hsum : ¬ (b.size + (Utf8.encode (n : Int)).size > 9223372036854775807) := by have := encode_four n; omega
  have HG := Lib.hid hl
  clear hbs hl
  by_cases h1 : c = 35
  · have h35 : k = 35 := by rw [← hck, h1]; rfl
    have d1 : ((k : Int) == 35) = true := by simp; omega
    have HQ : Hid (goesL b.data.toList n = decide (n ≠ 10)) := Lib.hid (by rw [HG.out, goes_on_kind (.inl h1), if_pos h1])
    clear h1 hck hsum h35
    go_enter Tryz.func65, Tryz.ntmps65
    go_wp2_with (first
      | (go_at_call 67; with_reducible refine (isLetter_any _ _).mono ?_; rintro e w1 ⟨rfl, rfl⟩)
      | (go_at_call 68; with_reducible refine (isDigit_any _ _).mono ?_; rintro e w1 ⟨rfl, rfl⟩)
      | (go_at_call 70; with_reducible refine (isSign_any _ _).mono ?_; rintro e w1 ⟨rfl, rfl⟩))
    go_ret
    refine ⟨?_, rfl⟩
    rw [HQ.out]
    show Ending.returned (Value.bool _) = _
    congr 2
    rw [Bool.eq_iff_iff]
    simp
    try omega
  · have h35 : ¬ k = 35 := fun e => h1 (UInt8.toNat_inj.1 (by rw [hck, e]; rfl))
    have d1 : ((k : Int) == 35) = false := by simp; omega
    cases h2 : letterB c
    · have l1 : letterN k = false := by rw [← hck]; exact h2
      cases h3 : digitB c
      · have l2 : digitN k = false := by rw [← hck]; exact h3
        have HQ : Hid (goesL b.data.toList n = signL (b ++ Utf8.encode (n : Int)).data.toList) := Lib.hid (by rw [HG.out, goes_sign (by rintro (h | h | h); exact h1 h; rw [h2] at h; cases h; rw [h3] at h; cases h), Joins.data_append, HG.out])
        clear h1 h2 h3 h35 hck
        go_enter Tryz.func65, Tryz.ntmps65
        go_wp2_with (first
          | (go_at_call 67; with_reducible refine (isLetter_any _ _).mono ?_; rintro e w1 ⟨rfl, rfl⟩)
          | (go_at_call 68; with_reducible refine (isDigit_any _ _).mono ?_; rintro e w1 ⟨rfl, rfl⟩)
          | (go_at_call 70; with_reducible refine (isSign_any _ _).mono ?_; rintro e w1 ⟨rfl, rfl⟩))
        go_ret
        exact ⟨by rw [HQ.out]; rfl, rfl⟩
      · have l2 : digitN k = true := by rw [← hck]; exact h3
        have HQ : Hid (goesL b.data.toList n = digitN n) := Lib.hid (by rw [HG.out, goes_on_kind (.inr (.inr h3)), if_neg h1, h2]; rfl)
        clear h1 h2 h3 h35 hck hsum
        go_enter Tryz.func65, Tryz.ntmps65
        go_wp2_with (first
          | (go_at_call 67; with_reducible refine (isLetter_any _ _).mono ?_; rintro e w1 ⟨rfl, rfl⟩)
          | (go_at_call 68; with_reducible refine (isDigit_any _ _).mono ?_; rintro e w1 ⟨rfl, rfl⟩)
          | (go_at_call 70; with_reducible refine (isSign_any _ _).mono ?_; rintro e w1 ⟨rfl, rfl⟩))
        go_ret
        exact ⟨by rw [HQ.out]; rfl, rfl⟩
    · have l1 : letterN k = true := by rw [← hck]; exact h2
      have HQ : Hid (goesL b.data.toList n = ((letterN n || digitN n) || decide (n = 95))) := Lib.hid (by rw [HG.out, goes_on_kind (.inr (.inl h2)), if_neg h1, if_pos h2])
      have H95 : Hid (((n : Int) == 95) = decide (n = 95)) := Lib.hid (by rw [Bool.eq_iff_iff]; simp; omega)
      clear h1 h2 h35 hck hsum
      cases q1 : letterN n <;> cases q2 : digitN n
      all_goals rw [q1, q2] at HQ
      all_goals go_enter Tryz.func65, Tryz.ntmps65
      all_goals go_wp2_with (first
        | (go_at_call 67; with_reducible refine (isLetter_any _ _).mono ?_; rintro e w1 ⟨rfl, rfl⟩)
        | (go_at_call 68; with_reducible refine (isDigit_any _ _).mono ?_; rintro e w1 ⟨rfl, rfl⟩)
        | (go_at_call 70; with_reducible refine (isSign_any _ _).mono ?_; rintro e w1 ⟨rfl, rfl⟩))
      all_goals go_ret
      all_goals (refine ⟨?_, rfl⟩; rw [HQ.out]; first | rfl | (show Ending.returned (Value.bool _) = _; rw [H95.out]; rfl))
end
end Go.Proofs.YteaongdlbleehaaGreatDoor

/- The lexer layer: first. -/
namespace Go.Proofs.YteaongdlbleehaaGreatDoor
open Go.RowKit
section
variable {c : UInt8} {r : List UInt8}
theorem iterPos_of {w : World} {k : Nat} {s : ByteArray} {p : Nat} (h : w.heap[k]? = some (.stringIter s p)) : w.iterPos k = p := by simp [World.iterPos, h]
theorem width_pos (s : ByteArray) (pos : Nat) (h : pos < s.size) : 1 ≤ (Utf8.decode s pos).2 := by
  by_cases ha : (s[pos]).toNat < 128
  · rw [decode_ascii s pos h ha]; exact Nat.le_refl 1
  · exact (decode_high s pos h (by omega)).2
theorem extract_cons {s : ByteArray} {pos : Nat} (hl : s.data.toList = c :: r) (h1 : 1 ≤ pos) : (s.extract 0 pos).data.toList = c :: r.take (pos - 1) := by
  rw [Lib.extract_data, hl]
  obtain ⟨q, rfl⟩ : ∃ q, pos = q + 1 := ⟨pos - 1, by omega⟩
  simp
theorem extract_all (s : ByteArray) : s.extract 0 s.size = s := by
  apply LastIndex.eq_of_toList
  rw [ByteArray.toList_eq, ByteArray.toList_eq, Lib.extract_data, List.drop_zero, Nat.sub_zero, List.take_of_length_le (by rw [list_size]; exact Nat.le_refl _)]
/-- Where the reading of a first piece stands. -/
def Stood (c : UInt8) (r : List UInt8) (pos : Nat) : Prop := pos = 0 ∨ (1 ≤ pos ∧ (c.toNat < 128 → pos ≤ flen (c :: r)))
theorem Stood.next {s : ByteArray} {pos : Nat} (h : Stood c r pos) (hl : s.data.toList = c :: r) (hp : pos < s.size) (hg : pos = 0 ∨ goesL ((c :: r).take pos) (Utf8.decode s pos).1 = true) : Stood c r (pos + (Utf8.decode s pos).2) := by
  have hw := width_pos s pos hp
  refine .inr ⟨by omega, fun hc => ?_⟩
  rcases Nat.eq_zero_or_pos pos with rfl | h0
  · have hs : s[0] = c := by rw [← get_list s 0 hp]; simp [hl]
    rw [decode_ascii s 0 hp (by rw [hs]; exact hc)]
    have := flen_pos c r
    simpa using this
  · rcases h with h | ⟨h1, h2⟩
    · omega
    · exact (goes_step hl h1 hp (h2 hc)).1 (by rcases hg with e | e; omega; exact e)
theorem Stood.stop {s : ByteArray} {pos : Nat} (h : Stood c r pos) (hl : s.data.toList = c :: r) (h0 : 1 ≤ pos) (hp : pos < s.size) (hg : goesL ((c :: r).take pos) (Utf8.decode s pos).1 = false) : c.toNat < 128 → pos = flen (c :: r) := by
  rcases h with h | ⟨h1, h2⟩
  · omega
  · exact fun hc => ((goes_step hl h1 hp (h2 hc)).2 hg).symm
theorem Stood.end_ {s : ByteArray} {pos : Nat} (h : Stood c r pos) (hl : s.data.toList = c :: r) (hp : s.size ≤ pos) : c.toNat < 128 → s.size = flen (c :: r) := by
  have hsz : s.size = r.length + 1 := by rw [← list_size, hl]; rfl
  rcases h with h | ⟨h1, h2⟩
  · omega
  · intro hc
    have := h2 hc
    have := flen_le c r
    omega
set_option maxRecDepth 100000 in
set_option maxHeartbeats 3200000 in
theorem first_any (s : ByteArray) (hs : s.size ≤ 5000) (hl : s.data.toList = c :: r) (W : World) : Calls Tryz.prog 36 #[.string s] W (fun e w' => ∃ k, e = .returned (.string (s.extract 0 k)) ∧ 1 ≤ k ∧ k ≤ s.size ∧ (c.toNat < 128 → k = flen (c :: r)) ∧ Below W.heap.size W w') := by
  have hs1 : 1 ≤ s.size := by rw [← list_size, hl]; simp
  have HL := Lib.hid hl
  clear hl
  go_enter Tryz.func36, Tryz.ntmps36
  go_wp2
  go_loopw [3] (fun v wr => ∃ pos : Nat, wr.heap[W.heap.size]? = some (.stringIter s pos) ∧ Below W.heap.size W wr ∧ Hid (Stood c r pos)) (fun _ wr => s.size - wr.iterPos W.heap.size)
  case atStart => exact ⟨0, World.iter_heap W s 0, (Below.refl _ _).alloc (Nat.le_refl _) _, Lib.hid (.inl rfl)⟩
  case round =>
    obtain ⟨pos, hit, hbw, HS⟩ := hrel
    have hpos0 := iterPos_of hit
    by_cases hp : pos < s.size
    · have hnx : ∀ ty, (Instr.next (.pointer (some ⟨W.heap.size, 0, none⟩)) true ty).run Tryz.prog wr = _ := fun ty => Lib.run_next_any_at wr W.heap.size s pos ty hit hp
      have hwd := width_pos s pos hp
      have hit2 := Lib.iterAt_heap wr W.heap.size s pos (pos + (Utf8.decode s pos).2) hit
      have hbw2 := Lib.below_iterAt hbw (k := W.heap.size) (Nat.le_refl _) s (pos + (Utf8.decode s pos).2)
      obtain ⟨W1, hW1⟩ : ∃ W1, W1 = wr.iterAt W.heap.size s (pos + (Utf8.decode s pos).2) := ⟨_, rfl⟩
      rw [← hW1] at hnx hit2 hbw2
      clear hW1 hit hbw
      rcases Nat.eq_zero_or_pos pos with rfl | h0
      · go_wp2_with fail
        go_roundw
        case rel => exact ⟨_, hit2, hbw2, Lib.hid (HS.out.next HL.out hp (.inl rfl))⟩
        case measure => rw [iterPos_of hit2, hpos0]; omega
      · have HGo : Hid (∀ w, Calls Tryz.prog 65 #[.string (s.extract 0 pos), .int .i32 ((Utf8.decode s pos).1 : Int)] w (fun e w' => e = .returned (.bool (goesL (s.extract 0 pos).data.toList (Utf8.decode s pos).1)) ∧ w = w')) := Lib.hid fun w => goesOn_any _ c _ _ (by rw [ByteArray.size_extract]; omega) (extract_cons HL.out h0) w
        have HT : Hid ((s.extract 0 pos).data.toList = (c :: r).take pos) := Lib.hid (by rw [Lib.extract_data, HL.out]; simp)
        rw [HT.out] at HGo
        cases hg : goesL ((c :: r).take pos) (Utf8.decode s pos).1
        · rw [hg] at HGo
          have HH := Lib.hid hg
          clear hg
          go_wp2_with (go_at_call 65; with_reducible refine (HGo.out _).mono ?_; rintro e w1 ⟨rfl, rfl⟩)
          go_ret
          exact ⟨pos, rfl, by omega, by omega, HS.out.stop HL.out (by omega) hp HH.out, hbw2⟩
        · rw [hg] at HGo
          have HH := Lib.hid hg
          clear hg
          go_wp2_with (go_at_call 65; with_reducible refine (HGo.out _).mono ?_; rintro e w1 ⟨rfl, rfl⟩)
          go_roundw
          case rel => exact ⟨_, hit2, hbw2, Lib.hid (HS.out.next HL.out hp (.inr HH.out))⟩
          case measure => rw [iterPos_of hit2, hpos0]; omega
    · have hnx : ∀ ty, (Instr.next (.pointer (some ⟨W.heap.size, 0, none⟩)) true ty).run Tryz.prog wr = _ := fun ty => Lib.run_next_end_at wr W.heap.size s pos ty hit hp
      have hp2 : s.size ≤ pos := by omega
      clear hp
      go_wp2_with fail
      go_ret
      exact ⟨s.size, by rw [extract_all]; rfl, hs1, Nat.le_refl _, HS.out.end_ HL.out hp2, hbw⟩
end
end Go.Proofs.YteaongdlbleehaaGreatDoor
