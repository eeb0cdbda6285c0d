/- The lexer layer: first. -/
import Derived.Test.YtlkbapcienjdcaaLxFirst
namespace Go.Proofs.Ytlkbapcienjdcaa
open Go.RowKit
section
variable {c : UInt8} {r : List UInt8}
theorem iterPos_of {w : World} {k : Nat} {s : ByteArray} {p : Nat} (h : w.heap[k]? = some (.stringIter s p)) : w.iterPos k = p := by simp [World.iterPos, h]
theorem width_pos (s : ByteArray) (pos : Nat) (h : pos < s.size) : 1 ≤ (Utf8.decode s pos).2 := by
  by_cases ha : (s[pos]).toNat < 128
  · rw [decode_ascii s pos h ha]; exact Nat.le_refl 1
  · exact (decode_high s pos h (by omega)).2
theorem extract_cons {s : ByteArray} {pos : Nat} (hl : s.data.toList = c :: r) (h1 : 1 ≤ pos) : (s.extract 0 pos).data.toList = c :: r.take (pos - 1) := by
  rw [Lib.extract_data, hl]
  obtain ⟨q, rfl⟩ : ∃ q, pos = q + 1 := ⟨pos - 1, by omega⟩
  simp
theorem extract_all (s : ByteArray) : s.extract 0 s.size = s := by
  apply LastIndex.eq_of_toList
  rw [ByteArray.toList_eq, ByteArray.toList_eq, Lib.extract_data, List.drop_zero, Nat.sub_zero, List.take_of_length_le (by rw [list_size]; exact Nat.le_refl _)]
/-- Where the reading of a first piece stands. -/
def Stood (c : UInt8) (r : List UInt8) (pos : Nat) : Prop := pos = 0 ∨ (1 ≤ pos ∧ (c.toNat < 128 → pos ≤ flen (c :: r)))
theorem Stood.next {s : ByteArray} {pos : Nat} (h : Stood c r pos) (hl : s.data.toList = c :: r) (hp : pos < s.size) (hg : pos = 0 ∨ goesL ((c :: r).take pos) (Utf8.decode s pos).1 = true) : Stood c r (pos + (Utf8.decode s pos).2) := by
  have hw := width_pos s pos hp
  refine .inr ⟨by omega, fun hc => ?_⟩
  rcases Nat.eq_zero_or_pos pos with rfl | h0
  · have hs : s[0] = c := by rw [← get_list s 0 hp]; simp [hl]
    rw [decode_ascii s 0 hp (by rw [hs]; exact hc)]
    have := flen_pos c r
    simpa using this
  · rcases h with h | ⟨h1, h2⟩
    · omega
    · exact (goes_step hl h1 hp (h2 hc)).1 (by rcases hg with e | e; omega; exact e)
theorem Stood.stop {s : ByteArray} {pos : Nat} (h : Stood c r pos) (hl : s.data.toList = c :: r) (h0 : 1 ≤ pos) (hp : pos < s.size) (hg : goesL ((c :: r).take pos) (Utf8.decode s pos).1 = false) : c.toNat < 128 → pos = flen (c :: r) := by
  rcases h with h | ⟨h1, h2⟩
  · omega
  · exact fun hc => ((goes_step hl h1 hp (h2 hc)).2 hg).symm
theorem Stood.end_ {s : ByteArray} {pos : Nat} (h : Stood c r pos) (hl : s.data.toList = c :: r) (hp : s.size ≤ pos) : c.toNat < 128 → s.size = flen (c :: r) := by
  have hsz : s.size = r.length + 1 := by rw [← list_size, hl]; rfl
  rcases h with h | ⟨h1, h2⟩
  · omega
  · intro hc
    have := h2 hc
    have := flen_le c r
    omega
set_option maxRecDepth 100000 in
set_option maxHeartbeats 3200000 in
theorem first_any (s : ByteArray) (hs : s.size ≤ 5000) (hl : s.data.toList = c :: r) (W : World) : Calls Try.prog 15 #[.string s] W (fun e w' => ∃ k, e = .returned (.string (s.extract 0 k)) ∧ 1 ≤ k ∧ k ≤ s.size ∧ (c.toNat < 128 → k = flen (c :: r)) ∧ Below W.heap.size W w') := by
  have hs1 : 1 ≤ s.size := by rw [← list_size, hl]; simp
  have HL := Lib.hid hl
  clear hl
  go_enter Try.func15, Try.ntmps15
  go_wp2
  go_loopw [3] (fun v wr => ∃ pos : Nat, wr.heap[W.heap.size]? = some (.stringIter s pos) ∧ Below W.heap.size W wr ∧ Hid (Stood c r pos)) (fun _ wr => s.size - wr.iterPos W.heap.size)
  case atStart => exact ⟨0, World.iter_heap W s 0, (Below.refl _ _).alloc (Nat.le_refl _) _, Lib.hid (.inl rfl)⟩
  case round =>
    obtain ⟨pos, hit, hbw, HS⟩ := hrel
    have hpos0 := iterPos_of hit
    by_cases hp : pos < s.size
    · have hnx : ∀ ty, (Instr.next (.pointer (some ⟨W.heap.size, 0, none⟩)) true ty).run Try.prog wr = _ := fun ty => Lib.run_next_any_at wr W.heap.size s pos ty hit hp
      have hwd := width_pos s pos hp
      have hit2 := Lib.iterAt_heap wr W.heap.size s pos (pos + (Utf8.decode s pos).2) hit
      have hbw2 := Lib.below_iterAt hbw (k := W.heap.size) (Nat.le_refl _) s (pos + (Utf8.decode s pos).2)
      obtain ⟨W1, hW1⟩ : ∃ W1, W1 = wr.iterAt W.heap.size s (pos + (Utf8.decode s pos).2) := ⟨_, rfl⟩
      rw [← hW1] at hnx hit2 hbw2
      clear hW1 hit hbw
      rcases Nat.eq_zero_or_pos pos with rfl | h0
      · go_wp2_with fail
        go_roundw
        case rel => exact ⟨_, hit2, hbw2, Lib.hid (HS.out.next HL.out hp (.inl rfl))⟩
        case measure => rw [iterPos_of hit2, hpos0]; omega
      · have HGo : Hid (∀ w, Calls Try.prog 26 #[.string (s.extract 0 pos), .int .i32 ((Utf8.decode s pos).1 : Int)] w (fun e w' => e = .returned (.bool (goesL (s.extract 0 pos).data.toList (Utf8.decode s pos).1)) ∧ w = w')) := Lib.hid fun w => goesOn_any _ c _ _ (by rw [ByteArray.size_extract]; omega) (extract_cons HL.out h0) w
        have HT : Hid ((s.extract 0 pos).data.toList = (c :: r).take pos) := Lib.hid (by rw [Lib.extract_data, HL.out]; simp)
        rw [HT.out] at HGo
        cases hg : goesL ((c :: r).take pos) (Utf8.decode s pos).1
        · rw [hg] at HGo
          have HH := Lib.hid hg
          clear hg
          go_wp2_with (go_at_call 26; with_reducible refine (HGo.out _).mono ?_; rintro e w1 ⟨rfl, rfl⟩)
          go_ret
          exact ⟨pos, rfl, by omega, by omega, HS.out.stop HL.out (by omega) hp HH.out, hbw2⟩
        · rw [hg] at HGo
          have HH := Lib.hid hg
          clear hg
          go_wp2_with (go_at_call 26; with_reducible refine (HGo.out _).mono ?_; rintro e w1 ⟨rfl, rfl⟩)
          go_roundw
          case rel => exact ⟨_, hit2, hbw2, Lib.hid (HS.out.next HL.out hp (.inr HH.out))⟩
          case measure => rw [iterPos_of hit2, hpos0]; omega
    · have hnx : ∀ ty, (Instr.next (.pointer (some ⟨W.heap.size, 0, none⟩)) true ty).run Try.prog wr = _ := fun ty => Lib.run_next_end_at wr W.heap.size s pos ty hit hp
      have hp2 : s.size ≤ pos := by omega
      clear hp
      go_wp2_with fail
      go_ret
      exact ⟨s.size, by rw [extract_all]; rfl, hs1, Nat.le_refl _, HS.out.end_ HL.out hp2, hbw⟩
end
end Go.Proofs.Ytlkbapcienjdcaa
