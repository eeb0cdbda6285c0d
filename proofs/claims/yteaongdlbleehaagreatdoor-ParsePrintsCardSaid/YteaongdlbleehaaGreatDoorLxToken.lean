/- The lexer layer: value, token. -/
import Derived.Test.YteaongdlbleehaaGreatDoorLxBlank
import Derived.Test.YteaongdlbleehaaGreatDoorLBlk
namespace Go.Proofs.YteaongdlbleehaaGreatDoor
open Go.RowKit
section
variable {c : UInt8} {r : List UInt8}
theorem drop_cons {l : List UInt8} {pos : Nat} (h : pos < l.length) : l.drop pos = l[pos] :: l.drop (pos + 1) := List.drop_eq_getElem_cons h
theorem digit_bd (h : digitB c = true) : 48 ≤ c.toNat ∧ c.toNat ≤ 57 := by
  unfold digitB at h
  simpa using h
set_option maxRecDepth 100000 in
set_option maxHeartbeats 3200000 in
theorem value_any (s : ByteArray) (hs : s.size ≤ 5000) (hd : ∀ b ∈ s.data.toList, digitB b = true) (W : World) : Calls Tryz.prog 69 #[.string s] W (fun e w' => e = .returned (.tuple #[.int .i64 (((numL s.data.toList).getD 0 : Nat) : Int), .bool (numL s.data.toList).isSome]) ∧ Below W.heap.size W w') := by
  obtain ⟨l, hl⟩ : ∃ l, s.data.toList = l := ⟨_, rfl⟩
  have hlen : l.length = s.size := by rw [← hl, list_size]
  rw [hl]
  by_cases h40 : 40 < s.size
  · have HQ : Hid (numL l = none) := Lib.hid (by unfold numL; rw [if_pos (by omega)])
    clear hl hlen hd
    go_enter Tryz.func69, Tryz.ntmps69
    go_wp2_with fail
    go_ret2
    exact ⟨by rw [HQ.out]; rfl, Below.refl _ _⟩
  · have HQ : Hid (numL l = valF 0 l) := Lib.hid (by unfold numL; rw [if_neg (by omega)])
    have h40' : s.size ≤ 40 := by omega
    have HD : Hid (∀ pos (h : pos < s.size), l[pos]? = some s[pos] ∧ digitB s[pos] = true) := Lib.hid fun pos h => by
      have e := get_list s pos h
      subst hl
      refine ⟨by rw [← e]; exact List.getElem?_eq_getElem _, hd _ (by rw [← e]; exact List.getElem_mem _)⟩
    have HLen := Lib.hid hlen
    clear hl hlen hd h40
    go_enter Tryz.func69, Tryz.ntmps69
    go_wp2
    go_loopw [4] (fun v wr => ∃ (pos n : Nat), v = .int .i64 (n : Int) ∧ n ≤ 1152921504606846976 ∧ wr.heap[W.heap.size]? = some (.stringIter s pos) ∧ Below W.heap.size W wr ∧ pos ≤ s.size ∧ Hid (valF n (l.drop pos) = valF 0 l)) (fun _ wr => s.size - wr.iterPos W.heap.size)
    case atStart => exact ⟨0, 0, rfl, by omega, World.iter_heap W s 0, (Below.refl _ _).alloc (Nat.le_refl _) _, by omega, Lib.hid rfl⟩
    case round =>
      obtain ⟨pos, n, rfl, hn, hit, hbw, hps, HV⟩ := hrel
      have hpos0 := iterPos_of hit
      by_cases hp : pos < s.size
      · obtain ⟨hg, hdg⟩ := HD.out pos hp
        obtain ⟨k1, k2⟩ := digit_bd hdg
        have hnx : ∀ ty, (Instr.next (.pointer (some ⟨W.heap.size, 0, none⟩)) true ty).run Tryz.prog wr = _ := fun ty => Lib.run_next_ascii_at wr W.heap.size s pos ty hit hp (by omega)
        have hit2 := Lib.iterAt_heap wr W.heap.size s pos (pos + 1) hit
        have hbw2 := Lib.below_iterAt hbw (k := W.heap.size) (Nat.le_refl _) s (pos + 1)
        obtain ⟨W1, hW1⟩ : ∃ W1, W1 = wr.iterAt W.heap.size s (pos + 1) := ⟨_, rfl⟩
        rw [← hW1] at hnx hit2 hbw2
        have HC : Hid (l.drop pos = s[pos] :: l.drop (pos + 1)) := Lib.hid (by
          obtain ⟨h1, h2⟩ := List.getElem?_eq_some_iff.1 hg
          rw [drop_cons h1, h2])
        obtain ⟨k, hk⟩ : ∃ k, (s[pos]).toNat = k := ⟨_, rfl⟩
        have HN : Hid (valF n (l.drop pos) = if 1152921504606846976 < n * 10 + (k - 48) then none else valF (n * 10 + (k - 48)) (l.drop (pos + 1))) := Lib.hid (by rw [HC.out, ← hk]; rfl)
        rw [hk] at hnx k1 k2
        obtain ⟨d, hd⟩ : ∃ d, k = d + 48 := ⟨k - 48, by omega⟩
        have hd9 : d ≤ 9 := by omega
        subst hd
        simp only [Nat.add_sub_cancel] at HN
        have e1 : ((d + 48 : Nat) : Int) = (d : Int) + 48 := by omega
        rw [e1] at hnx
        clear hW1 hit hbw HC hk hg hdg k1 k2 e1
        by_cases hgt : 1152921504606846976 < n * 10 + d
        · have HR : Hid (valF 0 l = none) := Lib.hid (by rw [← HV.out, HN.out, if_pos hgt])
          have g1 : (1152921504606846976 - (d : Int)) / 10 < (n : Int) := by omega
          clear HV HN
          go_wp2_with fail
          go_ret2
          exact ⟨by rw [HQ.out, HR.out]; rfl, hbw2⟩
        · have HR : Hid (valF (n * 10 + d) (l.drop (pos + 1)) = valF 0 l) := Lib.hid (by rw [← HV.out, HN.out, if_neg hgt])
          have g1 : (n : Int) ≤ (1152921504606846976 - (d : Int)) / 10 := by omega
          clear HV HN
          go_wp2_with fail
          go_roundw
          case rel => exact ⟨pos + 1, n * 10 + d, by go_num, by omega, hit2, hbw2, by omega, HR⟩
          case measure => rw [iterPos_of hit2, hpos0]; omega
      · have hnx : ∀ ty, (Instr.next (.pointer (some ⟨W.heap.size, 0, none⟩)) true ty).run Tryz.prog wr = _ := fun ty => Lib.run_next_end_at wr W.heap.size s pos ty hit hp
        have HR : Hid (valF 0 l = some n) := Lib.hid (by
          rw [← HV.out, List.drop_eq_nil_of_le (by rw [HLen.out]; omega)]
          rfl)
        clear HV hp
        go_wp2_with fail
        go_ret2
        exact ⟨by rw [HQ.out, HR.out]; rfl, hbw⟩
/-- Four cells of a block. -/
theorem quad_set {w : World} {g : Nat} {t : TypeId} {a b c d : Value} (h : Blk w g t #[a, b, c, d]) (a' b' c' d' : Value) : Blk ((((w.setCell ⟨g, 0, none⟩ a').setCell ⟨g, 1, none⟩ b').setCell ⟨g, 2, none⟩ c').setCell ⟨g, 3, none⟩ d') g t #[a', b', c', d'] := (((h.set_ 0 a').set_ 1 b').set_ 2 c').set_ 3 d'
theorem quad_below {w w' : World} {B g : Nat} (h : Below B w w') (hg : B ≤ g) (a' b' c' d' : Value) : Below B w ((((w'.setCell ⟨g, 0, none⟩ a').setCell ⟨g, 1, none⟩ b').setCell ⟨g, 2, none⟩ c').setCell ⟨g, 3, none⟩ d') := (((h.setCell (p := ⟨g, 0, none⟩) hg _).setCell (p := ⟨g, 1, none⟩) hg _).setCell (p := ⟨g, 2, none⟩) hg _).setCell (p := ⟨g, 3, none⟩) hg _
/-- A token, as a value. -/
abbrev tokV (k : Int) (s : ByteArray) (n a : Int) : Value := .agg #[.int .i64 k, .string s, .int .i64 n, .int .i64 a]
/-- What token tells. -/
def tokR (s : ByteArray) : (Nat × Nat) ⊕ Nat → Value
  | .inl (k, v) => .tuple #[tokV k s v 0, .int .i64 0]
  | .inr e => .tuple #[tokV 0 ⟨#[]⟩ 0 0, .int .i64 e]
set_option maxRecDepth 100000 in
set_option maxHeartbeats 6400000 in
theorem token_any (s : ByteArray) (hs : s.size ≤ 5000) (hl : s.data.toList = c :: r) (hd : digitB c = true → ∀ b ∈ s.data.toList, digitB b = true) (W : World) : Calls Tryz.prog 38 #[.string s] W (fun e w' => e = .returned (tokR s (tokP (c :: r))) ∧ Below W.heap.size W w') := by
  have hb : 0 < s.size := by rw [← list_size, hl]; simp
  have hsz : (c :: r).length = s.size := by rw [← list_size, hl]
  have hc : s[0] = c := by rw [← get_list s 0 hb]; simp [hl]
  have hk : (s[0]).toNat = c.toNat := by rw [hc]
  have hlt : (c.toNat : Int) ≤ 255 := by have := c.toNat_lt; omega
  have HTk : Hid (∀ v, tokP (c :: r) = v ↔ (if letterB c then (if 16 < (c :: r).length then .inr 111 else .inl (0, 0)) else if digitB c then (match numL (c :: r) with | some v => .inl (1, v) | none => .inr 111) else if signL (c :: r) then .inl (2, 0) else .inr 110) = v) := Lib.hid fun v => Iff.rfl
  have B1 : Below W.heap.size W (W.alloc (.cells #[.int .i64 0, .string ⟨#[]⟩, .int .i64 0, .int .i64 0] 49)) := (Below.refl _ _).alloc (Nat.le_refl _) _
  have HB1 := Lib.hid B1
  have HLt : Hid (W.heap.size < (W.alloc (.cells #[.int .i64 0, .string ⟨#[]⟩, .int .i64 0, .int .i64 0] 49)).heap.size) := Lib.hid (by rw [World.size_alloc]; omega)
  clear B1
  cases h2 : letterB c
  · have l1 : letterN c.toNat = false := h2
    cases h3 : digitB c
    · have l2 : digitN c.toNat = false := h3
      have HSg : Hid (∀ W, Calls Tryz.prog 70 #[.string s] W (fun e w' => e = .returned (.bool (signL (c :: r))) ∧ W = w')) := Lib.hid fun W => by have := isSign_any s W; rw [hl] at this; exact this
      have HVl : Hid (∀ W, Calls Tryz.prog 69 #[.string s] W (fun e w' => e = .returned (.tuple #[.int .i64 0, .bool false]) ∧ Below W.heap.size W w') → True) := Lib.hid fun _ _ => trivial
      obtain ⟨k, hck⟩ : ∃ k, c.toNat = k := ⟨_, rfl⟩
      rw [hck] at hk hlt l1 l2
      cases h4 : signL (c :: r)
      · have HR : Hid (tokP (c :: r) = .inr 110) := Lib.hid ((HTk.out _).2 (by rw [h2, h3, h4]; rfl))
        rw [h4] at HSg
        clear hl hc hd h2 h3 h4 hck HTk hs hsz
        go_enter Tryz.func38, Tryz.ntmps38
        go_wp2_with (first
          | (go_at_call 67; with_reducible refine (isLetter_any _ _).mono ?_; rintro e w1 ⟨rfl, rfl⟩)
          | (go_at_call 68; with_reducible refine (isDigit_any _ _).mono ?_; rintro e w1 ⟨rfl, rfl⟩)
          | (go_at_call 70; with_reducible refine (HSg.out _).mono ?_; rintro e w1 ⟨rfl, rfl⟩)
          | (go_at_call 69; with_reducible refine (HVl.out _).mono ?_; rintro e w1 ⟨rfl, hb⟩; have HB := Lib.hid hb; clear hb))
        rw [HR.out]
        exact bodyPost_ret (v := tokR s (.inr 110)) (by simp [results, Tryz.results38, go_sem, tokR]) rfl ⟨rfl, (Below.refl _ _).alloc (Nat.le_refl _) _⟩
      · have HR : Hid (tokP (c :: r) = .inl (2, 0)) := Lib.hid ((HTk.out _).2 (by rw [h2, h3, h4]; rfl))
        rw [h4] at HSg
        clear hl hc hd h2 h3 h4 hck HTk hs hsz
        go_enter Tryz.func38, Tryz.ntmps38
        go_wp2_with (first
          | (go_at_call 67; with_reducible refine (isLetter_any _ _).mono ?_; rintro e w1 ⟨rfl, rfl⟩)
          | (go_at_call 68; with_reducible refine (isDigit_any _ _).mono ?_; rintro e w1 ⟨rfl, rfl⟩)
          | (go_at_call 70; with_reducible refine (HSg.out _).mono ?_; rintro e w1 ⟨rfl, rfl⟩)
          | (go_at_call 69; with_reducible refine (HVl.out _).mono ?_; rintro e w1 ⟨rfl, hb⟩; have HB := Lib.hid hb; clear hb))
        rw [HR.out]
        exact bodyPost_ret (v := tokR s (.inl (2, 0))) (by simp [results, Tryz.results38, go_sem, tokR]) rfl ⟨rfl, (Below.refl _ _).alloc (Nat.le_refl _) _⟩
    · have l2 : digitN c.toNat = true := h3
      have HVl : Hid (∀ W, Calls Tryz.prog 69 #[.string s] W (fun e w' => e = .returned (.tuple #[.int .i64 (((numL (c :: r)).getD 0 : Nat) : Int), .bool (numL (c :: r)).isSome]) ∧ Below W.heap.size W w')) := Lib.hid fun W => by have := value_any s hs (hd h3) W; rw [hl] at this; exact this
      obtain ⟨k, hck⟩ : ∃ k, c.toNat = k := ⟨_, rfl⟩
      rw [hck] at hk hlt l1 l2
      cases h4 : numL (c :: r) with
      | none =>
        have HR : Hid (tokP (c :: r) = .inr 111) := Lib.hid ((HTk.out _).2 (by rw [h2, h3, h4]; rfl))
        rw [h4] at HVl
        simp only [Option.isSome_none, Option.getD_none] at HVl
        clear hl hc hd h2 h3 h4 hck HTk hs hsz
        go_enter Tryz.func38, Tryz.ntmps38
        go_wp2_with (first
          | (go_at_call 67; with_reducible refine (isLetter_any _ _).mono ?_; rintro e w1 ⟨rfl, rfl⟩)
          | (go_at_call 68; with_reducible refine (isDigit_any _ _).mono ?_; rintro e w1 ⟨rfl, rfl⟩)
          | (go_at_call 69; with_reducible refine (HVl.out _).mono ?_; rintro e w2 ⟨rfl, hb⟩; have HB := Lib.hid (HB1.out.trans (hb.mono HB1.out.size)); have HK := Lib.hid ((Blk.new W 49 #[.int .i64 0, .string ⟨#[]⟩, .int .i64 0, .int .i64 0]).below hb HLt.out); have f0 := HK.out.frozen 0; have f1 := HK.out.frozen 1; have f2 := HK.out.frozen 2; have f3 := HK.out.frozen 3; have f4 := HK.out.lt; have x0 := HK.out.cell 0; have x1 := HK.out.cell 1; have x2 := HK.out.cell 2; have x3 := HK.out.cell 3; simp at x0 x1 x2 x3; clear hb))
        have q := quad_set HK.out (.int .i64 0) (.string ⟨#[]⟩) (.int .i64 0) (.int .i64 0)
        have q0 := q.cell 0
        have q1 := q.cell 1
        have q2 := q.cell 2
        have q3 := q.cell 3
        rw [HR.out]
        exact bodyPost_ret (v := tokR s (.inr 111)) (by simp [results, Tryz.results38, go_sem, tokR, q0, q1, q2, q3]) rfl ⟨rfl, quad_below HB.out (Nat.le_refl _) _ _ _ _⟩
      | some v =>
        have HR : Hid (tokP (c :: r) = .inl (1, v)) := Lib.hid ((HTk.out _).2 (by rw [h2, h3, h4]; rfl))
        rw [h4] at HVl
        simp only [Option.isSome_some, Option.getD_some] at HVl
        clear hl hc hd h2 h3 h4 hck HTk hs hsz
        go_enter Tryz.func38, Tryz.ntmps38
        go_wp2_with (first
          | (go_at_call 67; with_reducible refine (isLetter_any _ _).mono ?_; rintro e w1 ⟨rfl, rfl⟩)
          | (go_at_call 68; with_reducible refine (isDigit_any _ _).mono ?_; rintro e w1 ⟨rfl, rfl⟩)
          | (go_at_call 69; with_reducible refine (HVl.out _).mono ?_; rintro e w2 ⟨rfl, hb⟩; have HB := Lib.hid (HB1.out.trans (hb.mono HB1.out.size)); have HK := Lib.hid ((Blk.new W 49 #[.int .i64 0, .string ⟨#[]⟩, .int .i64 0, .int .i64 0]).below hb HLt.out); have f0 := HK.out.frozen 0; have f1 := HK.out.frozen 1; have f2 := HK.out.frozen 2; have f3 := HK.out.frozen 3; have f4 := HK.out.lt; have x0 := HK.out.cell 0; have x1 := HK.out.cell 1; have x2 := HK.out.cell 2; have x3 := HK.out.cell 3; simp at x0 x1 x2 x3; clear hb))
        have q := quad_set HK.out (.int .i64 1) (.string s) (.int .i64 v) (.int .i64 0)
        have q0 := q.cell 0
        have q1 := q.cell 1
        have q2 := q.cell 2
        have q3 := q.cell 3
        rw [HR.out]
        exact bodyPost_ret (v := tokR s (.inl (1, v))) (by simp [results, Tryz.results38, go_sem, tokR, q0, q1, q2, q3]) rfl ⟨rfl, quad_below HB.out (Nat.le_refl _) _ _ _ _⟩
  · have l1 : letterN c.toNat = true := h2
    obtain ⟨k, hck⟩ : ∃ k, c.toNat = k := ⟨_, rfl⟩
    rw [hck] at hk hlt l1
    have HVl : True := trivial
    by_cases h5 : 16 < s.size
    · have HR : Hid (tokP (c :: r) = .inr 111) := Lib.hid ((HTk.out _).2 (by rw [h2, hsz, if_pos rfl, if_pos h5]))
      clear hl hc hd h2 hck HTk hs hsz
      go_enter Tryz.func38, Tryz.ntmps38
      go_wp2_with (go_at_call 67; with_reducible refine (isLetter_any _ _).mono ?_; rintro e w1 ⟨rfl, rfl⟩)
      rw [HR.out]
      exact bodyPost_ret (v := tokR s (.inr 111)) (by simp [results, Tryz.results38, go_sem, tokR]) rfl ⟨rfl, (Below.refl _ _).alloc (Nat.le_refl _) _⟩
    · have HR : Hid (tokP (c :: r) = .inl (0, 0)) := Lib.hid ((HTk.out _).2 (by rw [h2, hsz, if_pos rfl, if_neg h5]))
      have h5' : s.size ≤ 16 := by omega
      clear hl hc hd h2 hck HTk hs hsz h5
      go_enter Tryz.func38, Tryz.ntmps38
      go_wp2_with (go_at_call 67; with_reducible refine (isLetter_any _ _).mono ?_; rintro e w1 ⟨rfl, rfl⟩)
      rw [HR.out]
      exact bodyPost_ret (v := tokR s (.inl (0, 0))) (by simp [results, Tryz.results38, go_sem, tokR]) rfl ⟨rfl, (Below.refl _ _).alloc (Nat.le_refl _) _⟩
end
end Go.Proofs.YteaongdlbleehaaGreatDoor
