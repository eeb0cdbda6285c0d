/- The leaf layer: Len, Put. -/
import Derived.Test.YtlkbapcienjdcaaDoorLFind
namespace Go.Proofs.YtlkbapcienjdcaaDoor
open Go.RowKit
attribute [local go_sem ↓] Go.wp_at_zero Go.wp_at_succ
section
variable {W : World} {B p bm m lim lz cz : Nat} {v : Value} {Az : Option Addr} {R : Option Mat} {L : List Lz} {N : Int}
theorem LTab.vs {K : List Lz} (h : LTab B p bm v m lim L K W) : ∃ Av cv, v = .slice Av L.length cv := by
  rcases h.row.2 with ⟨e, e0⟩ | ⟨g, cap, cur, e, _⟩
  · exact ⟨none, 0, by rw [e, e0]⟩
  · exact ⟨_, cap, e⟩
set_option maxHeartbeats 400000 in
theorem len_any (h : LTab B p bm v m lim L L W) : Calls Tryd.prog 11 #[.pointer (some ⟨p, 0, none⟩)] W (fun e w' => e = .returned (.int .i64 (L.length : Int)) ∧ W = w') := by
  obtain ⟨Av, cv, rfl⟩ := h.vs
  have a := h.tb.cell 2
  clear h
  go_enter Tryd.func11, Tryd.ntmps11
  go_wp2_with fail
  go_ret
  exact ⟨rfl, rfl⟩
/-- What Put has done. -/
def PutO (m lim : Nat) (L : List Lz) (R : Option Mat) (L' : List Lz) (i err : Int) : Prop :=
  (idx m L (textZ m R) = some i ∧ L' = L ∧ err = 0) ∨ (idx m L (textZ m R) = none ∧ lim ≤ L.length ∧ L' = L ∧ i = 0 ∧ err = 40) ∨ (idx m L (textZ m R) = none ∧ L.length < lim ∧ (∃ A c, L' = L ++ [(R, A, c)]) ∧ i = (L.length : Int) ∧ err = 0)
def RetP (B p bm : Nat) (v : Value) (m lim : Nat) (L : List Lz) (R : Option Mat) (w : World) (e : Ending) (w' : World) : Prop := ∃ v' L' i err, e = .returned (.tuple #[.int .i64 i, .int .i64 err]) ∧ LTab B p bm v' m lim L' L' w' ∧ Below B w w' ∧ Sd p bm v v' w w' ∧ PutO m lim L R L' i err
set_option maxRecDepth 100000 in
set_option maxHeartbeats 6400000 in
theorem put_in (h0 : 0 < m) (h7 : m ≤ 7) (hL : L.length ≤ 100000) (h : LTab B p bm v m lim L L W) (hR : ∀ C, R = some C → Closed m C) (ht : ∀ W', Below B W W' → Tabs W')
    (K : ∀ W1, Below W.heap.size W W1 → Calls Tryd.prog 32 #[zoneV ((m : Int) - 1) Az lz cz] W1 (RetC W1 m R)) :
    Calls Tryd.prog 23 #[.pointer (some ⟨p, 0, none⟩), zoneV ((m : Int) - 1) Az lz cz] W (RetP B p bm v m lim L R W) := by
  have b1 := zboxed W (.cells #[.int .i64 ((m : Int) - 1), .slice Az lz cz] 39)
  have hle := h.le
  have hX : FB W B p bm v m lim L W.heap.size ((m : Int) - 1) Az lz cz (W.alloc (.cells #[.int .i64 ((m : Int) - 1), .slice Az lz cz] 39)) := ⟨h.below b1, Duo.new W _ _ _, b1⟩
  have HFi : Hid (∀ W', FB W B p bm v m lim L W.heap.size ((m : Int) - 1) Az lz cz W' → Calls Tryd.prog 12 #[.pointer (some ⟨p, 0, none⟩), zoneV ((m : Int) - 1) Az lz cz] W' (RetF m L R W')) := Lib.hid fun W' x => find_in h0 h7 x.t hR (ht W' (x.low.mono hle)) (fun W1 hb1 => K W1 (x.low.trans (hb1.mono x.low.size)))
  have HLn : Hid (∀ W', FB W B p bm v m lim L W.heap.size ((m : Int) - 1) Az lz cz W' → Calls Tryd.prog 11 #[.pointer (some ⟨p, 0, none⟩)] W' (fun e w' => e = .returned (.int .i64 (L.length : Int)) ∧ W' = w')) := Lib.hid fun W' x => len_any x.t
  have HCl : Hid (∀ W', Below W.heap.size W W' → Calls Tryd.prog 32 #[zoneV ((m : Int) - 1) Az lz cz] W' (RetC W' m R)) := Lib.hid K
  have HHo : Hid (∀ W' A c base, FB W B p bm v m lim L W.heap.size ((m : Int) - 1) Az lz cz W' → ZRes W' base m R (zoneV ((m : Int) - 1) A (rlen m R) c) → B ≤ base → (∀ y, y ∈ L → textZ m y.1 ≠ textZ m R) → Calls Tryd.prog 19 #[.pointer (some ⟨p, 0, none⟩), zoneV ((m : Int) - 1) A (rlen m R) c] W' fun e w' => e = .returned (.int .i64 (L.length : Int)) ∧ Below B W' w' ∧ ∃ v', LTab B p bm v' m lim (L ++ [(R, A, c)]) (L ++ [(R, A, c)]) w' ∧ Sd p bm v v' W' w') := Lib.hid fun W' A c base x z hb hn => hold_any h0 h7 hL x.t (z.lower hb) hR hn (fun W2 hb2 => ht W2 ((x.low.mono hle).trans hb2))
  have HC := Lib.hid (idx_cases m L (textZ m R))
  have HLe := Lib.hid hle
  have X0 := Lib.hid (hX.below (Below.refl _ _).drew)
  clear h hR ht K b1 hX h0 h7 hle hL
  go_enter Tryd.func23, Tryd.ntmps23
  go_wp2_with fail
  refine wp_region_held_drew (S := fun w' => (w'.cell? ⟨W.heap.size, 0, none⟩ = some (.int .i64 ((m : Int) - 1)) ∧ w'.cell? ⟨W.heap.size, 1, none⟩ = some (.slice Az lz cz)) ∧ w'.cell? ⟨p, 0, none⟩ = some (.int .i64 ((m : Int) - 1)) ∧ w'.cell? ⟨p, 3, none⟩ = some (.map (some bm))) (by kernel_rfl) X0.out.s (fun h0 => ?_)
  refine wpAnyH_take (i := 0) (oi := ⟨some 8, _, _, _, _, _⟩) (v := ?_) rfl (by kernel_rfl) (by kernel_rfl) (by kernel_rfl) (fun _ _ _ h => h) (Or.inl ⟨by rfl, ?_⟩) h0 ?_
  rotate_left
  · intro w hSw
    try dsimp only at hSw
    go_simp
    try with_reducible rfl
  try simp only [Act.put, List.setIfInBounds_toArray, List.set_cons_zero, List.set_cons_succ]
  refine wpAnyH_take (i := 1) (oi := ⟨some 9, _, _, _, _, _⟩) (v := ?_) rfl (by kernel_rfl) (by kernel_rfl) (by kernel_rfl) (fun _ _ _ h => h) (Or.inl ⟨by rfl, ?_⟩) h0 ?_
  rotate_left
  · intro w hSw
    try dsimp only at hSw
    go_simp
    try with_reducible rfl
  try simp only [Act.put, List.setIfInBounds_toArray, List.set_cons_zero, List.set_cons_succ]
  refine wpAnyH_take (i := 2) (oi := ⟨some 10, _, _, _, _, _⟩) (v := ?_) rfl (by kernel_rfl) (by kernel_rfl) (by kernel_rfl) (fun _ _ _ h => h) (Or.inl ⟨by rfl, ?_⟩) h0 ?_
  rotate_left
  · intro w hSw
    try dsimp only at hSw
    go_simp
    try with_reducible rfl
  try simp only [Act.put, List.setIfInBounds_toArray, List.set_cons_zero, List.set_cons_succ]
  refine wpAnyH_take (i := 3) (oi := ⟨some 11, _, _, _, _, _⟩) (v := ?_) rfl (by kernel_rfl) (by kernel_rfl) (by kernel_rfl) (fun _ _ _ h => h) (Or.inl ⟨by rfl, ?_⟩) h0 ?_
  rotate_left
  · intro w hSw
    try dsimp only at hSw
    go_simp
    try with_reducible rfl
  try simp only [Act.put, List.setIfInBounds_toArray, List.set_cons_zero, List.set_cons_succ]
  refine wpAnyH_take (i := 4) (oi := ⟨some 12, _, _, _, _, _⟩) (v := ?_) rfl (by kernel_rfl) (by kernel_rfl) (by kernel_rfl) (fun _ _ _ h => h) (Or.inl ⟨by rfl, ?_⟩) h0 ?_
  rotate_left
  · intro w hSw
    try dsimp only at hSw
    go_simp
    try with_reducible rfl
  try simp only [Act.put, List.setIfInBounds_toArray, List.set_cons_zero, List.set_cons_succ]
  refine wpAnyH_take (i := 5) (oi := ⟨some 13, _, _, _, _, _⟩) (v := ?_) rfl (by kernel_rfl) (by kernel_rfl) (by kernel_rfl) (fun _ _ _ h => h) (Or.inl ⟨by rfl, ?_⟩) h0 ?_
  rotate_left
  · intro w hSw
    try dsimp only at hSw
    go_simp
    try with_reducible rfl
  try simp only [Act.put, List.setIfInBounds_toArray, List.set_cons_zero, List.set_cons_succ]
  refine wpAnyH_take (i := 6) (oi := ⟨some 14, _, _, _, _, _⟩) (v := ?_) rfl (by kernel_rfl) (by kernel_rfl) (by kernel_rfl) (fun _ _ _ h => h) (Or.inl ⟨by rfl, ?_⟩) h0 ?_
  rotate_left
  · intro w hSw
    try dsimp only at hSw
    go_simp
    try with_reducible rfl
  try simp only [Act.put, List.setIfInBounds_toArray, List.set_cons_zero, List.set_cons_succ]
  refine wpAnyH_done (by kernel_rfl) ?_ _
  obtain ⟨W0, hW0⟩ : ∃ x, (W.alloc (.cells #[.int .i64 ((m : Int) - 1), .slice Az lz cz] 39)).drew = x := ⟨_, rfl⟩
  rw [hW0] at X0 ⊢
  clear hW0
  obtain ⟨s0, s1⟩ := X0.out.s.1
  rcases HC.out with ⟨e1, e2⟩ | ⟨i, e1, hi, x, hx, hs⟩
  · have HE := Lib.hid (And.intro e1 e2)
    clear e2
    go_wp2_with (go_at_call 12; ((with_reducible refine (HFi.out _ X0.out).mono ?_); rintro e w3 ⟨c3, rfl, hc3, hb3⟩); have X3 := Lib.hid (X0.out.below hb3); have X4 := Lib.hid (X3.out.below (Below.refl _ _).drew); clear hb3 hc3)
    refine wp_region_held_drew (S := fun w' => w'.cell? ⟨p, 1, none⟩ = some (.int .i64 (lim : Int))) (by kernel_rfl) (X4.out.t.tb.cell 1) (fun k0 => ?_)
    refine wpAnyH_take (i := 0) (oi := ⟨some 23, _, _, _, _, _⟩) (v := ?_) rfl (by kernel_rfl) (by kernel_rfl) (by kernel_rfl) (fun _ _ _ h => h) (Or.inl ⟨by rfl, ?_⟩) k0 ?_
    rotate_left
    · intro w hSw
      try dsimp only at hSw
      go_simp
      try with_reducible rfl
    try simp only [Act.put, List.setIfInBounds_toArray, List.set_cons_zero, List.set_cons_succ]
    refine wpAnyH_take (i := 2) (oi := ⟨some 25, _, _, _, _, _⟩) (v := ?_) rfl (by kernel_rfl) (by kernel_rfl) (by kernel_rfl) (fun _ _ _ h => h) (Or.inl ⟨by rfl, ?_⟩) k0 ?_
    rotate_left
    · intro w hSw
      try dsimp only at hSw
      go_simp
      try with_reducible rfl
    try simp only [Act.put, List.setIfInBounds_toArray, List.set_cons_zero, List.set_cons_succ]
    refine wpAnyH_take (i := 3) (oi := ⟨some 26, _, _, _, _, _⟩) (v := ?_) rfl (by kernel_rfl) (by kernel_rfl) (by kernel_rfl) (fun _ _ _ h => h) (Or.inl ⟨by rfl, ?_⟩) k0 ?_
    rotate_left
    · intro w hSw
      try dsimp only at hSw
      go_simp
      try with_reducible rfl
    try simp only [Act.put, List.setIfInBounds_toArray, List.set_cons_zero, List.set_cons_succ]
    refine wpAnyH_take (i := 4) (oi := ⟨some 27, _, _, _, _, _⟩) (v := ?_) rfl (by kernel_rfl) (by kernel_rfl) (by kernel_rfl) (fun _ _ _ h => h) (Or.inl ⟨by rfl, ?_⟩) k0 ?_
    rotate_left
    · intro w hSw
      try dsimp only at hSw
      go_simp
      try with_reducible rfl
    try simp only [Act.put, List.setIfInBounds_toArray, List.set_cons_zero, List.set_cons_succ]
    refine wpAnyH_take (i := 5) (oi := ⟨some 28, _, _, _, _, _⟩) (v := ?_) rfl (by kernel_rfl) (by kernel_rfl) (by kernel_rfl) (fun _ _ _ h => h) (Or.inl ⟨by rfl, ?_⟩) k0 ?_
    rotate_left
    · intro w hSw
      try dsimp only at hSw
      go_simp
      try with_reducible rfl
    try simp only [Act.put, List.setIfInBounds_toArray, List.set_cons_zero, List.set_cons_succ]
    refine wpAnyH_ready (rs := [1]) (by kernel_rfl) (by simp) ?_
    refine (AllReadyH.cons (o := ⟨some 24, _, _, _, _, _⟩) rfl (fun K hK => ?_) AllReadyH.nil)
    go_simp
    refine (HLn.out _ X4.out).mono ?_
    rintro e w5 ⟨rfl, rfl⟩
    go_wp2_with fail
    refine hK.out _ _ (X4.out.t.tb.cell 1) (fun k1 => ?_)
    clear hK K
    try simp only [Act.put, List.setIfInBounds_toArray, List.set_cons_zero, List.set_cons_succ]
    refine wpAnyH_take (i := 6) (oi := ⟨some 29, _, _, _, _, _⟩) (v := ?_) rfl (by kernel_rfl) (by kernel_rfl) (by kernel_rfl) (fun _ _ _ h => h) (Or.inl ⟨by rfl, ?_⟩) k1 ?_
    rotate_left
    · intro w hSw
      try dsimp only at hSw
      go_simp
      try with_reducible rfl
    try simp only [Act.put, List.setIfInBounds_toArray, List.set_cons_zero, List.set_cons_succ]
    refine wpAnyH_done (by kernel_rfl) ?_ _
    obtain ⟨W4, hW4⟩ : ∃ x, w3.drew = x := ⟨_, rfl⟩
    rw [hW4] at X4 ⊢
    clear hW4 s0 s1 e1
    obtain ⟨s0, s1⟩ := X4.out.s.1
    by_cases hf : lim ≤ L.length
    · have d1 : decide ((lim : Int) ≤ (L.length : Int)) = true := decide_eq_true (by omega)
      go_wp2_with fail
      go_ret2
      exact ⟨_, L, 0, 40, rfl, X4.out.t, X4.out.low.mono HLe.out, (Sd.refl p bm v W).below X4.out.low, .inr (.inl ⟨HE.out.1, hf, rfl, rfl, rfl⟩)⟩
    · have d1 : decide ((lim : Int) ≤ (L.length : Int)) = false := decide_eq_false (by omega)
      have HF := Lib.hid hf
      clear hf
      go_wp2_with (first
        | (go_at_call 32; ((with_reducible refine (HCl.out _ X4.out.low).mono ?_); rintro e w5 ⟨A5, c5, rfl, hz5, hb5⟩); have X5 := Lib.hid (X4.out.below hb5); have Z5 := Lib.hid hz5; have S5 := Lib.hid (Nat.le_trans HLe.out X4.out.low.size); clear hb5 hz5)
        | (go_at_call 19; ((with_reducible refine (HHo.out _ _ _ _ X5.out Z5.out S5.out HE.out.2).mono ?_); rintro e w6 ⟨rfl, hb6, v6, hT6, hS6⟩); have T6 := Lib.hid hT6; have S6 := Lib.hid (hS6.before X5.out.low); have B6 := Lib.hid ((X5.out.low.mono HLe.out).trans hb6); clear hb6 hT6 hS6))
      go_ret2
      exact ⟨_, _, _, 0, rfl, T6.out, B6.out, S6.out, .inr (.inr ⟨HE.out.1, by have := HF.out; omega, ⟨_, _, rfl⟩, rfl, rfl⟩)⟩
  · have HE := Lib.hid e1
    clear hx hs hi
    go_wp2_with (go_at_call 12; ((with_reducible refine (HFi.out _ X0.out).mono ?_); rintro e w3 ⟨c3, rfl, hc3, hb3⟩); have X3 := Lib.hid (X0.out.below hb3); have C3 := Lib.hid (hc3 _ HE.out); clear hb3 hc3)
    go_ret2
    exact ⟨_, L, c3, 0, rfl, X3.out.t, X3.out.low.mono HLe.out, (Sd.refl p bm v W).below X3.out.low, .inl ⟨by rw [HE.out, C3.out], rfl, rfl⟩⟩
end
end Go.Proofs.YtlkbapcienjdcaaDoor
