/- The lexer layer: strings.ContainsRune of the blanks; silent. -/
import Derived.Test.YteaongdlbleehaaGreatDoorGLxPiece
import Derived.Test.YteaongdlbleehaaGreatDoorShelfL
namespace Go.Proofs.YteaongdlbleehaaGreatDoor
open Go.RowKit
section
variable {c : UInt8} {r : List UInt8}
theorem encode_pair (n : Nat) (h1 : 128 ≤ n) (h2 : n < 256) : ∃ a b : UInt8, Utf8.encode (n : Int) = ⟨#[a, b]⟩ ∧ 128 ≤ b.toNat := by
  have hv : Utf8.valid (n : Int) = true := by unfold Utf8.valid; simp; omega
  refine ⟨UInt8.ofNat (192 + n / 64), UInt8.ofNat (128 + n % 64), ?_, ?_⟩
  · unfold Utf8.encode
    simp only [if_pos hv, Int.toNat_natCast]
    rw [if_neg (by omega), if_pos (by omega)]
  · rw [UInt8.toNat_ofNat_of_lt' (show 128 + n % 64 < 256 by omega)]; omega
set_option maxRecDepth 100000 in
set_option maxHeartbeats 3200000 in
theorem indexRune_high (n : Nat) (h1 : 128 ≤ n) (h2 : n < 256) (W : World) : Calls Tryz.prog 98 #[.string ⟨#[32, 9, 10]⟩, .int .i32 (n : Int)] W (fun e w' => e = .returned (.int .i64 (-1)) ∧ Below W.heap.size W w') := by
  obtain ⟨a, b, hE, hb⟩ := encode_pair n h1 h2
  obtain ⟨E, hEE⟩ : ∃ E : ByteArray, E = ⟨#[a, b]⟩ := ⟨_, rfl⟩
  rw [← hEE] at hE
  have hsz : E.size = 2 := by rw [hEE]; rfl
  have he1 : (E[1]'(by omega)).toNat = b.toNat := by subst hEE; rfl
  have hv : Lib.validRune (n : Int) = true := by unfold Lib.validRune; simp; omega
  have hib : Lib.indexByte [10] (b.toNat : Int).toNat.toUInt8 = -1 := by
    have : ((b.toNat : Int).toNat.toUInt8) = b := by simp
    rw [this]
    unfold Lib.indexByte
    rw [if_neg (fun e => by rw [← eq_of_beq e] at hb; simp at hb)]
    rfl
  have d1 : decide ((0 : Int) ≤ (n : Int)) = true := decide_eq_true (by omega)
  have d2 : decide ((n : Int) < 128) = false := decide_eq_false (by omega)
  have d3 : ((n : Int) == 65533) = false := by simp; omega
  have d4 : ((9 : Int) != (b.toNat : Int)) = true := by simp; omega
  have d5 : ((9 : Int) == (b.toNat : Int)) = false := by simp; omega
  obtain ⟨s, hs⟩ : ∃ s : ByteArray, s = ⟨#[32, 9, 10]⟩ := ⟨_, rfl⟩
  have hs3 : s.size = 3 := by rw [hs]; rfl
  have hs9 : (s[1]'(by omega)).toNat = 9 := by subst hs; rfl
  have hx : s.extract 2 3 = ⟨#[10]⟩ := by subst hs; rfl
  have HIb : Hid (∀ w, Calls Tryz.prog 126 #[.string (s.extract 2 3), .int .u8 (b.toNat : Int)] w (fun e w' => e = .returned (.int .i64 (-1)) ∧ w' = w)) := Lib.hid fun w => (Tryz.strings_IndexByte _ _ w).mono fun e w' ⟨h1, h2⟩ => ⟨by rw [h1, hx]; show Ending.returned (Value.int IntKind.i64 (Lib.indexByte [10] _)) = _; rw [hib], h2⟩
  rw [← hs]
  clear hEE hs hib hx
  go_enter Tryz.func98, Tryz.ntmps98
  go_wp2_with (first
    | (go_at_call 127; refine (Tryz.utf8_ValidRune _ _).mono ?_; rintro e w1 ⟨rfl, rfl⟩))
  go_step3
  go_wp2
  refine wp_loop_rounds 1 ?_
  rw [rounds_succ]
  go_wp2
  go_step3
  go_wp2
  go_quiet (fail)
  go_wp2
  obtain ⟨Wq, hWq⟩ : ∃ x, w1.drewN nq = x := ⟨_, rfl⟩
  have HBq : Below w1.heap.size w1 Wq := by rw [← hWq]; exact ⟨rfl, rfl, rfl, Nat.le_refl _, fun _ _ => rfl⟩
  rw [hWq]
  clear hWq
  go_quiet ((go_at_call 126; refine Calls.quiet_of_same (HIb.out _)))
  go_wp2
  rw [Exit.noGoto_ret]
  go_simp
  go_ret
  exact ⟨rfl, HBq.trans ⟨rfl, rfl, rfl, Nat.le_refl _, fun _ _ => rfl⟩⟩
theorem containsRune_high (n : Nat) (h1 : 128 ≤ n) (h2 : n < 256) (W : World) : Calls Tryz.prog 66 #[.string ⟨#[32, 9, 10]⟩, .int .i32 (n : Int)] W (fun e w' => e = .returned (.bool false) ∧ Below W.heap.size W w') := by
  have HI := Lib.hid (indexRune_high n h1 h2 W)
  clear h1 h2
  go_enter Tryz.func66, Tryz.ntmps66
  go_wp2_with (go_at_call 98; with_reducible refine HI.out.mono ?_; rintro e w1 ⟨rfl, hb⟩; have HB := Lib.hid hb; clear hb)
  go_ret
  exact ⟨rfl, HB.out⟩
theorem blanks_index (c : UInt8) : decide (0 ≤ Lib.indexByte [32, 9, 10] c) = blankB c := by
  simp only [Lib.indexByte, blankB]
  rw [Bool.eq_iff_iff]
  simp
  by_cases h1 : c = 32
  · subst h1; decide
  · by_cases h2 : c = 9
    · subst h2; decide
    · by_cases h3 : c = 10
      · subst h3; decide
      · simp [h1, h2, h3, Ne.symm h1, Ne.symm h2, Ne.symm h3]
theorem containsRune_any (c : UInt8) (W : World) : Calls Tryz.prog 66 #[.string ⟨#[32, 9, 10]⟩, .int .i32 (c.toNat : Int)] W (fun e w' => e = .returned (.bool (blankB c)) ∧ Below W.heap.size W w') := by
  by_cases h : c.toNat < 128
  · refine (Tryz.strings_ContainsRune_ascii ⟨#[32, 9, 10]⟩ (c.toNat : Int) W (by omega) (by omega)).mono fun e w' ⟨h1, h2⟩ => ⟨?_, h2 ▸ Below.refl _ _⟩
    rw [h1, ← blanks_index]
    simp
  · have hb : blankB c = false := by
      unfold blankB
      simp
      refine ⟨⟨?_, ?_⟩, ?_⟩ <;> (rintro rfl; simp at h)
    rw [hb]
    exact containsRune_high _ (by omega) c.toNat_lt W
set_option maxRecDepth 100000 in
set_option maxHeartbeats 1600000 in
theorem silent_any (s : ByteArray) (hl : s.data.toList = c :: r) (W : World) : Calls Tryz.prog 37 #[.string s] W (fun e w' => e = .returned (.bool (silentB c)) ∧ Below W.heap.size W w') := by
  have hb : 0 < s.size := by rw [← list_size, hl]; simp
  have hc : s[0] = c := by rw [← get_list s 0 hb]; simp [hl]
  have hk : (s[0]).toNat = c.toNat := by rw [hc]
  have hlt : (c.toNat : Int) ≤ 255 := by have := c.toNat_lt; omega
  have HCo : Hid (∀ W, Calls Tryz.prog 66 #[.string ⟨#[32, 9, 10]⟩, .int .i32 (c.toNat : Int)] W (fun e w' => e = .returned (.bool (blankB c)) ∧ Below W.heap.size W w')) := Lib.hid fun W => containsRune_any c W
  obtain ⟨k, hck⟩ : ∃ k, c.toNat = k := ⟨_, rfl⟩
  have HQ : Hid (∀ q, silentB c = q ↔ (blankB c || c == 35) = q) := Lib.hid fun q => Iff.rfl
  have h35 : (c == 35) = decide (k = 35) := by
    rw [Bool.eq_iff_iff]
    simp
    exact ⟨fun e => by rw [← hck, e]; rfl, fun e => UInt8.toNat_inj.1 (by rw [hck, e]; rfl)⟩
  rw [hck] at hk hlt HCo
  clear hl hc hck
  by_cases h1 : k = 35
  · have d1 : ((k : Int) == 35) = true := by simp; omega
    have HR : Hid (silentB c = true) := Lib.hid ((HQ.out _).2 (by rw [h35, decide_eq_true h1]; simp))
    clear h35 h1 HCo
    go_enter Tryz.func37, Tryz.ntmps37
    go_wp2_with fail
    go_ret
    exact ⟨by rw [HR.out]; rfl, Below.refl _ _⟩
  · have d1 : ((k : Int) == 35) = false := by simp; omega
    have HR : Hid (silentB c = blankB c) := Lib.hid ((HQ.out _).2 (by rw [h35, decide_eq_false h1]; simp))
    clear h35 h1
    go_enter Tryz.func37, Tryz.ntmps37
    go_wp2_with (go_at_call 66; with_reducible refine (HCo.out _).mono ?_; rintro e w1 ⟨rfl, hb⟩; have HB := Lib.hid hb; clear hb)
    go_ret
    exact ⟨by rw [HR.out]; rfl, HB.out⟩
end
end Go.Proofs.YteaongdlbleehaaGreatDoor
