/- The leaf layer: hold. -/
import Derived.Test.YtlkbapcienjdcaaDoorLTab
import Derived.Test.YtlkbapcienjdcaaDoorGText
import Derived.Test.YtlkbapcienjdcaaDoorGWide
import Derived.BigRegion
import Derived.Deep.RegionHeld3
namespace Go.Proofs.YtlkbapcienjdcaaDoor
open Go.RowKit
attribute [local go_sem ↓] Go.wp_at_zero Go.wp_at_succ
theorem linfo : (Tryd.prog.info? 39).map (fun i => (i.zero, i.size, i.bytes)) = some (some (.agg #[.int .i64 0, .slice none 0 0]), 2, 32) := by kernel_rfl
theorem news_pair (W : World) (x y : Value) (t : TypeId) : ∀ (j : Nat) (u : Value), [x, y][j]? = some u → (W.alloc (.cells #[x, y] t)).cell? ((⟨W.heap.size, 0, none⟩ : Addr).add j) = some u := fun j u hu => by
  have hh := World.alloc_heap_new W (.cells #[x, y] t)
  generalize W.alloc (.cells #[x, y] t) = W1 at *
  match j, hu with
  | 0, hu => simp at hu; subst hu; simp [World.cell?, Addr.add, hh]
  | 1, hu => simp at hu; subst hu; simp [World.cell?, Addr.add, hh]
  | k + 2, hu => simp at hu
theorem zone_one (x : Int) (A : Option Addr) (l c : Nat) : ∀ u ∈ [Value.int .i64 x, .slice A l c], u.oneCell' = true := fun u hu => by
  simp at hu
  rcases hu with rfl | rfl <;> rfl
section
variable {W : World} {B p bm m lim c : Nat} {v : Value} {A : Option Addr} {R : Option Mat} {L : List Lz}
/-- While hold goes: the table, the zone's box. -/
structure HB (W0 : World) (v0 : Value) (B p bm : Nat) (v : Value) (m lim : Nat) (L K : List Lz) (b : Nat) (A : Option Addr) (l c : Nat) (W : World) : Prop where
  t : LTab B p bm v m lim L K W
  z : Duo W b 39 (.int .i64 ((m : Int) - 1)) (.slice A l c)
  low : Below B W0 W
  sd : Sd p bm v0 v W0 W
theorem HB.below {W0 W1 : World} {v0 : Value} {K : List Lz} {b l : Nat} (h : HB W0 v0 B p bm v m lim L K b A l c W) (hb : Below W.heap.size W W1) (hB : B ≤ W.heap.size) : HB W0 v0 B p bm v m lim L K b A l c W1 := ⟨h.t.below hb, h.z.below hb, h.low.trans (hb.mono hB), h.sd.below hb⟩
theorem HB.s {W0 : World} {v0 : Value} {K : List Lz} {b l : Nat} (h : HB W0 v0 B p bm v m lim L K b A l c W) : W.cell? ⟨b, 0, none⟩ = some (.int .i64 ((m : Int) - 1)) ∧ W.cell? ⟨b, 1, none⟩ = some (.slice A l c) := ⟨h.z.cell0, h.z.cell1⟩
theorem HB.s3 {W0 : World} {v0 : Value} {K : List Lz} {b l : Nat} (h : HB W0 v0 B p bm v m lim L K b A l c W) : (W.cell? ⟨b, 0, none⟩ = some (.int .i64 ((m : Int) - 1)) ∧ W.cell? ⟨b, 1, none⟩ = some (.slice A l c)) ∧ W.cell? ⟨p, 3, none⟩ = some (.map (some bm)) := ⟨⟨h.z.cell0, h.z.cell1⟩, h.t.tb.cell 3⟩
theorem LTab.le {K : List Lz} (h : LTab B p bm v m lim L K W) : B ≤ W.heap.size := Nat.le_of_lt (Nat.lt_of_le_of_lt h.hp h.tb.lt)
/-- Behind the append, and the store. -/
theorem HB.add {W0 W1 : World} {v0 v1 : Value} {b l : Nat} {o : Obj} (h : HB W0 v0 B p bm v m lim L L b A l c W) (hz : ZRes W B m R (zoneV ((m : Int) - 1) A (rlen m R) c)) (hl : l = rlen m R) (hn : ∀ y, y ∈ L → textZ m y.1 ≠ textZ m R)
    (ho : W1.ownsRow B 39 2 v1 (L.length + 1) (zcells m L ++ [.int .i64 ((m : Int) - 1), .slice A l c])) (hg : (W.alloc o).grownBy W1 v.ownBlock) (hbp : b ≠ p) (hbv : v.ownBlock ≠ some b) (hv1 : v1.ownBlock = v.ownBlock ∨ v1.ownBlock = some (W.alloc o).heap.size) :
    (W1.cell? ⟨p, 2, none⟩ = some v ∧ W1.frozen? ⟨p, 2, none⟩ = false ∧ p < W1.heap.size) ∧ HB W0 v0 B p bm v1 m lim (L ++ [(R, A, c)]) L b A l c (W1.setCell ⟨p, 2, none⟩ v1) ∧ (W1.cell? ⟨b, 0, none⟩ = some (.int .i64 ((m : Int) - 1)) ∧ W1.cell? ⟨b, 1, none⟩ = some (.slice A l c)) := by
  subst hl
  obtain ⟨t1, t2⟩ := h.t.add hz hn ho hg
  have z1 := (h.z.below (zboxed W o)).kept hg (fun e => hbv e.symm)
  have hl1 : B ≤ (W.alloc o).heap.size := by have := h.t.le; rw [World.size_alloc]; omega
  have low := (h.low.trans ((zboxed W o).mono h.t.le)).grown hg hl1 (fun q e => ((h.t.below (zboxed W o)).row.lt q e).1)
  have s1 : Sd p bm v0 v W0 (W.alloc o) := h.sd.below (zboxed W o)
  have s2 := s1.grown hg (fun g e => .inr (s1.row g e))
  have s3 : Sd p bm v0 v1 W0 (W1.setCell ⟨p, 2, none⟩ v1) := s2.put 2 v1 (fun g e => by
    rcases hv1 with q | q
    · exact s1.row g (q.symm.trans e)
    · rw [q] at e
      cases e
      exact .inr s1.size)
  exact ⟨⟨t1.cell 2, t1.frozen 2, t1.lt⟩, ⟨t2, z1.other hbp _, low.setCell (p := ⟨p, 2, none⟩) h.t.hp _, s3⟩, z1.cell0, z1.cell1⟩
set_option maxRecDepth 100000 in
set_option maxHeartbeats 6400000 in
theorem hold_any (h0 : 0 < m) (h7 : m ≤ 7) (hL : L.length ≤ 100000) (h : LTab B p bm v m lim L L W) (hz : ZRes W B m R (zoneV ((m : Int) - 1) A (rlen m R) c)) (hR : ∀ C, R = some C → Closed m C) (hn : ∀ y, y ∈ L → textZ m y.1 ≠ textZ m R) (ht : ∀ W', Below B W W' → Tabs W') :
    Calls Tryd.prog 19 #[.pointer (some ⟨p, 0, none⟩), zoneV ((m : Int) - 1) A (rlen m R) c] W fun e w' => e = .returned (.int .i64 (L.length : Int)) ∧ Below B W w' ∧ ∃ v', LTab B p bm v' m lim (L ++ [(R, A, c)]) (L ++ [(R, A, c)]) w' ∧ Sd p bm v v' W w' := by
  obtain ⟨i0, hi0, hz0, hz1, hz2⟩ := info_parts linfo
  obtain ⟨l, hl⟩ : ∃ x, rlen m R = x := ⟨_, rfl⟩
  have hB := h.le
  have b1 := zboxed W (.cells #[.int .i64 ((m : Int) - 1), .slice A l c] 39)
  have hb0 : HB W v B p bm v m lim L L W.heap.size A l c (W.alloc (.cells #[.int .i64 ((m : Int) - 1), .slice A l c] 39)) := ⟨h.below b1, Duo.new W _ _ _, b1.mono hB, (Sd.refl p bm v W).below b1⟩
  have HZ : Hid (ZRes (W.alloc (.cells #[.int .i64 ((m : Int) - 1), .slice A l c] 39)).drew B m R (zoneV ((m : Int) - 1) A (rlen m R) c)) := Lib.hid ((hz.below b1).below (Below.refl _ _).drew)
  have HLen : Hid (L.length + 1 ≤ maxLen ∧ (L.length + 1) * 32 ≤ 140737488355328) := Lib.hid (by unfold maxLen; omega)
  have HTx : Hid (∀ W', Below B W W' → ZRes W' B m R (zoneV ((m : Int) - 1) A l c) → Calls Tryd.prog 28 #[zoneV ((m : Int) - 1) A l c] W' (RetTx (textZ m R) W')) := Lib.hid fun W' hb z => by
    subst hl
    exact text_any h0 h7 hR (ht W' hb) (fun W1 hb1 => close_back h0 h7 (z.below hb1))
  have HNe : Hid (W.heap.size ≠ p ∧ v.ownBlock ≠ some W.heap.size ∧ W.heap.size ≠ bm) := Lib.hid ⟨fun e => by have := h.tb.lt; omega, fun e => by have := (h.row.lt _ e).2; omega, fun e => by have := h.ids.lt; omega⟩
  have HN := Lib.hid hn
  have HKl : Hid ((textZ m R).length ≤ maxLen) := Lib.hid (by have := textZ_len h0 h7 hR; unfold maxLen; omega)
  have HLl := Lib.hid hl
  have HL := Lib.hid hL
  have X := Lib.hid hb0
  obtain ⟨Av, cv, hv⟩ : ∃ Av cv, v = .slice Av L.length cv := by
    rcases h.row.2 with ⟨e, e0⟩ | ⟨g, cap, cur, e, _⟩
    · exact ⟨none, 0, by rw [e, e0]⟩
    · exact ⟨_, cap, e⟩
  subst hv
  have a2 := hb0.t.tb.cell 2
  have a0 := hb0.t.tb.lt
  rw [hl]
  clear h hz hR hn ht hl hB b1 hb0 h0 h7 hL
  go_enter Tryd.func19, Tryd.ntmps19
  go_wp2_with fail
  clear a0 a2
  obtain ⟨W1, hW1⟩ : ∃ x, W.alloc (.cells #[.int .i64 ((m : Int) - 1), .slice A l c] 39) = x := ⟨_, rfl⟩
  obtain ⟨b, hb⟩ : ∃ x, W.heap.size = x := ⟨_, rfl⟩
  rw [hW1, hb] at X
  rw [hW1] at HZ
  rw [hb] at HNe
  rw [hW1, hb]
  clear hW1 hb
  have X0 := Lib.hid (X.out.below (Below.refl _ _).drew X.out.t.le)
  refine wp_region_held_drew (S := fun w' => w'.cell? ⟨b, 0, none⟩ = some (.int .i64 ((m : Int) - 1)) ∧ w'.cell? ⟨b, 1, none⟩ = some (.slice A l c)) (by kernel_rfl) X0.out.s (fun h0 => ?_)
  refine wpAnyH_take (i := 0) (oi := ⟨some 11, _, _, _, _, _⟩) (v := ?_) rfl (by kernel_rfl) (by kernel_rfl) (by kernel_rfl) (fun _ _ _ h => h) (Or.inl ⟨by rfl, ?_⟩) h0 ?_
  rotate_left
  · intro w hSw
    try dsimp only at hSw
    go_simp
    try with_reducible rfl
  try simp only [Act.put, List.setIfInBounds_toArray, List.set_cons_zero, List.set_cons_succ]
  refine wpAnyH_take (i := 1) (oi := ⟨some 12, _, _, _, _, _⟩) (v := ?_) rfl (by kernel_rfl) (by kernel_rfl) (by kernel_rfl) (fun _ _ _ h => h) (Or.inl ⟨by rfl, ?_⟩) h0 ?_
  rotate_left
  · intro w hSw
    try dsimp only at hSw
    go_simp
    try with_reducible rfl
  try simp only [Act.put, List.setIfInBounds_toArray, List.set_cons_zero, List.set_cons_succ]
  refine wpAnyH_take (i := 2) (oi := ⟨some 13, _, _, _, _, _⟩) (v := ?_) rfl (by kernel_rfl) (by kernel_rfl) (by kernel_rfl) (fun _ _ _ h => h) (Or.inl ⟨by rfl, ?_⟩) h0 ?_
  rotate_left
  · intro w hSw
    try dsimp only at hSw
    go_simp
    try with_reducible rfl
  try simp only [Act.put, List.setIfInBounds_toArray, List.set_cons_zero, List.set_cons_succ]
  refine wpAnyH_take (i := 3) (oi := ⟨some 14, _, _, _, _, _⟩) (v := ?_) rfl (by kernel_rfl) (by kernel_rfl) (by kernel_rfl) (fun _ _ _ h => h) (Or.inl ⟨by rfl, ?_⟩) h0 ?_
  rotate_left
  · intro w hSw
    try dsimp only at hSw
    go_simp
    try with_reducible rfl
  try simp only [Act.put, List.setIfInBounds_toArray, List.set_cons_zero, List.set_cons_succ]
  refine wpAnyH_take (i := 5) (oi := ⟨some 16, _, _, _, _, _⟩) (v := ?_) rfl (by kernel_rfl) (by kernel_rfl) (by kernel_rfl) (fun _ _ _ h => h) (Or.inl ⟨by rfl, ?_⟩) h0 ?_
  rotate_left
  · intro w hSw
    try dsimp only at hSw
    go_simp
    try with_reducible rfl
  try simp only [Act.put, List.setIfInBounds_toArray, List.set_cons_zero, List.set_cons_succ]
  refine wpAnyH_ready (rs := [4, 6]) (by kernel_rfl) (by simp) ?_
  refine (AllReadyH.cons (o := ⟨some 15, _, _, _, _, _⟩) rfl (fun K hK => ?_) (AllReadyH.cons (o := ⟨some 17, _, _, _, _, _⟩) rfl (fun K hK => ?_) AllReadyH.nil))
  · have tf : W1.cell? ⟨p, 2, none⟩ = some (.slice Av L.length cv) := X0.out.t.tb.cell 2
    go_simp
    refine hK.out _ _ (X0.out.s) (fun h1 => ?_)
    clear hK K
    try simp only [Act.put, List.setIfInBounds_toArray, List.set_cons_zero, List.set_cons_succ]
    clear tf
    refine wpAnyH_ready (rs := [6]) (by kernel_rfl) (by simp) ?_
    refine (AllReadyH.cons (o := ⟨some 17, _, _, _, _, _⟩) rfl (fun K hK => ?_) AllReadyH.nil)
    have X1 := Lib.hid (X0.out.below (zboxed _ (.cells #[.int .i64 ((m : Int) - 1), .slice A l c] 39)) X0.out.t.le)
    go_simp
    refine hK.out _ _ (X1.out.s) (fun h2 => ?_)
    clear hK K
    try simp only [Act.put, List.setIfInBounds_toArray, List.set_cons_zero, List.set_cons_succ]
    refine wpAnyH_ready (rs := [7]) (by kernel_rfl) (by simp) ?_
    refine (AllReadyH.cons (o := ⟨some 18, _, _, _, _, _⟩) rfl (fun K hK => ?_) AllReadyH.nil)
    rw [if_pos (by rfl)]
    refine wp_append_at (.tmp 15) (.tmp 17) 43 rfl B 39 i0 (.agg #[.int .i64 0, .slice none 0 0]) 2 32 Tryd.underlying43 hi0 hz0 hz1 hz2 rfl (by decide) (.slice Av L.length cv) L.length (zcells m L) rfl X1.out.t.row _ 1 1 [.int .i64 ((m : Int) - 1), .slice A l c] rfl rfl (news_pair W1.drew _ _ _) (zone_one _ _ _ _) HLen.out.1 HLen.out.2 X1.out.t.le ?_
    intro v7 w7 ho7 hg7 hl7
    obtain ⟨g7, c7, rfl⟩ := slice_own ho7 (Nat.succ_pos _)
    have A7 := Lib.hid (X0.out.add HZ.out HLl.out.symm HN.out ho7 hg7 HNe.out.1 HNe.out.2.1 hl7)
    clear ho7 hg7 hl7
    refine hK.out _ _ (A7.out.2.2) (fun h5 => ?_)
    clear hK K
    try simp only [Act.put, List.setIfInBounds_toArray, List.set_cons_zero, List.set_cons_succ]
    refine wpAnyH_take (i := 8) (oi := ⟨some 19, _, _, _, _, _⟩) (v := ?_) rfl (by kernel_rfl) (by kernel_rfl) (by kernel_rfl) (fun _ _ _ h => h) (Or.inl ⟨by rfl, ?_⟩) h5 ?_
    rotate_left
    · intro w hSw
      try dsimp only at hSw
      go_simp
      try with_reducible rfl
    try simp only [Act.put, List.setIfInBounds_toArray, List.set_cons_zero, List.set_cons_succ]
    refine wpAnyH_take (i := 9) (oi := ⟨some 20, _, _, _, _, _⟩) (v := ?_) rfl (by kernel_rfl) (by kernel_rfl) (by kernel_rfl) (fun _ _ _ h => h) (Or.inl ⟨by rfl, ?_⟩) h5 ?_
    rotate_left
    · intro w hSw
      try dsimp only at hSw
      go_simp
      try with_reducible rfl
    try simp only [Act.put, List.setIfInBounds_toArray, List.set_cons_zero, List.set_cons_succ]
    refine wpAnyH_ready (rs := [10]) (by kernel_rfl) (by simp) ?_
    refine (AllReadyH.cons (o := ⟨none, _, _, _, _, _⟩) rfl (fun K hK => ?_) AllReadyH.nil)
    obtain ⟨z0, z1, z2⟩ := A7.out.1
    go_simp
    refine hK.out _ _ (A7.out.2.1.s) (fun h6 => ?_)
    clear hK K
    try simp only [Act.put, List.setIfInBounds_toArray, List.set_cons_zero, List.set_cons_succ]
    clear z0 z1 z2
    refine wpAnyH_done (by kernel_rfl) ?_ _
    have Y := Lib.hid A7.out.2.1
    go_wp2_with fail
    have Y0 := Lib.hid (Y.out.below (Below.refl _ _).drew Y.out.t.le)
    refine wp_region_held_drew (S := fun w' => (w'.cell? ⟨b, 0, none⟩ = some (.int .i64 ((m : Int) - 1)) ∧ w'.cell? ⟨b, 1, none⟩ = some (.slice A l c)) ∧ w'.cell? ⟨p, 3, none⟩ = some (.map (some bm))) (by kernel_rfl) Y0.out.s3 (fun k0 => ?_)
    refine wpAnyH_take (i := 0) (oi := ⟨some 21, _, _, _, _, _⟩) (v := ?_) rfl (by kernel_rfl) (by kernel_rfl) (by kernel_rfl) (fun _ _ _ h => h) (Or.inl ⟨by rfl, ?_⟩) k0 ?_
    rotate_left
    · intro w hSw
      try dsimp only at hSw
      go_simp
      try with_reducible rfl
    try simp only [Act.put, List.setIfInBounds_toArray, List.set_cons_zero, List.set_cons_succ]
    refine wpAnyH_take (i := 1) (oi := ⟨some 22, _, _, _, _, _⟩) (v := ?_) rfl (by kernel_rfl) (by kernel_rfl) (by kernel_rfl) (fun _ _ _ h => h) (Or.inl ⟨by rfl, ?_⟩) k0 ?_
    rotate_left
    · intro w hSw
      try dsimp only at hSw
      go_simp
      try with_reducible rfl
    try simp only [Act.put, List.setIfInBounds_toArray, List.set_cons_zero, List.set_cons_succ]
    refine wpAnyH_take (i := 2) (oi := ⟨some 23, _, _, _, _, _⟩) (v := ?_) rfl (by kernel_rfl) (by kernel_rfl) (by kernel_rfl) (fun _ _ _ h => h) (Or.inl ⟨by rfl, ?_⟩) k0 ?_
    rotate_left
    · intro w hSw
      try dsimp only at hSw
      go_simp
      try with_reducible rfl
    try simp only [Act.put, List.setIfInBounds_toArray, List.set_cons_zero, List.set_cons_succ]
    refine wpAnyH_take (i := 3) (oi := ⟨some 24, _, _, _, _, _⟩) (v := ?_) rfl (by kernel_rfl) (by kernel_rfl) (by kernel_rfl) (fun _ _ _ h => h) (Or.inl ⟨by rfl, ?_⟩) k0 ?_
    rotate_left
    · intro w hSw
      try dsimp only at hSw
      go_simp
      try with_reducible rfl
    try simp only [Act.put, List.setIfInBounds_toArray, List.set_cons_zero, List.set_cons_succ]
    refine wpAnyH_take (i := 4) (oi := ⟨some 25, _, _, _, _, _⟩) (v := ?_) rfl (by kernel_rfl) (by kernel_rfl) (by kernel_rfl) (fun _ _ _ h => h) (Or.inl ⟨by rfl, ?_⟩) k0 ?_
    rotate_left
    · intro w hSw
      try dsimp only at hSw
      go_simp
      try with_reducible rfl
    try simp only [Act.put, List.setIfInBounds_toArray, List.set_cons_zero, List.set_cons_succ]
    refine wpAnyH_take (i := 6) (oi := ⟨some 27, _, _, _, _, _⟩) (v := ?_) rfl (by kernel_rfl) (by kernel_rfl) (by kernel_rfl) (fun _ _ _ h => h) (Or.inl ⟨by rfl, ?_⟩) k0 ?_
    rotate_left
    · intro w hSw
      try dsimp only at hSw
      go_simp
      try with_reducible rfl
    try simp only [Act.put, List.setIfInBounds_toArray, List.set_cons_zero, List.set_cons_succ]
    refine wpAnyH_ready (rs := [5]) (by kernel_rfl) (by simp) ?_
    refine (AllReadyH.cons (o := ⟨some 26, _, _, _, _, _⟩) rfl (fun K hK => ?_) AllReadyH.nil)
    go_simp
    refine (HTx.out _ Y0.out.low (by rw [← HLl.out]; exact Y0.out.t.zs L.length _ (by rw [List.getElem?_append_right (Nat.le_refl _), Nat.sub_self]; rfl))).mono ?_
    rintro e w4 ⟨rfl, hb4⟩
    have Y4 := Lib.hid (Y0.out.below hb4 Y0.out.t.le)
    clear hb4
    go_wp2_with fail
    refine hK.out _ _ (Y4.out.s3) (fun k1 => ?_)
    clear hK K
    try simp only [Act.put, List.setIfInBounds_toArray, List.set_cons_zero, List.set_cons_succ]
    refine wpAnyH_ready (rs := [7]) (by kernel_rfl) (by simp) ?_
    refine (AllReadyH.cons (o := ⟨none, _, _, _, _, _⟩) rfl (fun K hK => ?_) AllReadyH.nil)
    obtain ⟨w5, hrun, hs5, hg5⟩ := Y4.out.t.ids.put (textZ m R) (L.length : Int) HKl.out (by have := HL.out; unfold I64; omega) (by have := HL.out; unfold maxLen; omega)
    have T5 := Lib.hid (Y4.out.t.sign HN.out hs5 hg5)
    have Z5 := Lib.hid (Y4.out.z.kept hg5 (by simpa using (fun e : b = bm => HNe.out.2.2 e)))
    have L5 := Lib.hid (Y4.out.low.grown hg5 Y4.out.t.le (fun q e => by cases e; exact Y4.out.t.hb))
    have S5 := Lib.hid (Y4.out.sd.grown hg5 (fun q e => by cases e; exact .inl rfl))
    clear hs5 hg5
    go_simp
    refine hK.out _ _ (⟨⟨Z5.out.cell0, Z5.out.cell1⟩, T5.out.tb.cell 3⟩) (fun k2 => ?_)
    clear hK K
    try simp only [Act.put, List.setIfInBounds_toArray, List.set_cons_zero, List.set_cons_succ]
    refine wpAnyH_done (by kernel_rfl) ?_ _
    clear hrun
    go_wp2_with fail
    go_ret
    exact ⟨rfl, L5.out, _, T5.out, S5.out⟩
  · have X1 := Lib.hid (X0.out.below (zboxed _ (.cells #[.int .i64 ((m : Int) - 1), .slice A l c] 39)) X0.out.t.le)
    go_simp
    refine hK.out _ _ (X1.out.s) (fun h1 => ?_)
    clear hK K
    try simp only [Act.put, List.setIfInBounds_toArray, List.set_cons_zero, List.set_cons_succ]
    refine wpAnyH_ready (rs := [4]) (by kernel_rfl) (by simp) ?_
    refine (AllReadyH.cons (o := ⟨some 15, _, _, _, _, _⟩) rfl (fun K hK => ?_) AllReadyH.nil)
    have tf : (W1.alloc (.cells #[.int .i64 ((m : Int) - 1), .slice A l c] 39)).cell? ⟨p, 2, none⟩ = some (.slice Av L.length cv) := X1.out.t.tb.cell 2
    go_simp
    refine hK.out _ _ (X1.out.s) (fun h2 => ?_)
    clear hK K
    try simp only [Act.put, List.setIfInBounds_toArray, List.set_cons_zero, List.set_cons_succ]
    clear tf
    refine wpAnyH_ready (rs := [7]) (by kernel_rfl) (by simp) ?_
    refine (AllReadyH.cons (o := ⟨some 18, _, _, _, _, _⟩) rfl (fun K hK => ?_) AllReadyH.nil)
    rw [if_pos (by rfl)]
    refine wp_append_at (.tmp 15) (.tmp 17) 43 rfl B 39 i0 (.agg #[.int .i64 0, .slice none 0 0]) 2 32 Tryd.underlying43 hi0 hz0 hz1 hz2 rfl (by decide) (.slice Av L.length cv) L.length (zcells m L) rfl X1.out.t.row _ 1 1 [.int .i64 ((m : Int) - 1), .slice A l c] rfl rfl (news_pair W1.drew _ _ _) (zone_one _ _ _ _) HLen.out.1 HLen.out.2 X1.out.t.le ?_
    intro v7 w7 ho7 hg7 hl7
    obtain ⟨g7, c7, rfl⟩ := slice_own ho7 (Nat.succ_pos _)
    have A7 := Lib.hid (X0.out.add HZ.out HLl.out.symm HN.out ho7 hg7 HNe.out.1 HNe.out.2.1 hl7)
    clear ho7 hg7 hl7
    refine hK.out _ _ (A7.out.2.2) (fun h5 => ?_)
    clear hK K
    try simp only [Act.put, List.setIfInBounds_toArray, List.set_cons_zero, List.set_cons_succ]
    refine wpAnyH_take (i := 8) (oi := ⟨some 19, _, _, _, _, _⟩) (v := ?_) rfl (by kernel_rfl) (by kernel_rfl) (by kernel_rfl) (fun _ _ _ h => h) (Or.inl ⟨by rfl, ?_⟩) h5 ?_
    rotate_left
    · intro w hSw
      try dsimp only at hSw
      go_simp
      try with_reducible rfl
    try simp only [Act.put, List.setIfInBounds_toArray, List.set_cons_zero, List.set_cons_succ]
    refine wpAnyH_take (i := 9) (oi := ⟨some 20, _, _, _, _, _⟩) (v := ?_) rfl (by kernel_rfl) (by kernel_rfl) (by kernel_rfl) (fun _ _ _ h => h) (Or.inl ⟨by rfl, ?_⟩) h5 ?_
    rotate_left
    · intro w hSw
      try dsimp only at hSw
      go_simp
      try with_reducible rfl
    try simp only [Act.put, List.setIfInBounds_toArray, List.set_cons_zero, List.set_cons_succ]
    refine wpAnyH_ready (rs := [10]) (by kernel_rfl) (by simp) ?_
    refine (AllReadyH.cons (o := ⟨none, _, _, _, _, _⟩) rfl (fun K hK => ?_) AllReadyH.nil)
    obtain ⟨z0, z1, z2⟩ := A7.out.1
    go_simp
    refine hK.out _ _ (A7.out.2.1.s) (fun h6 => ?_)
    clear hK K
    try simp only [Act.put, List.setIfInBounds_toArray, List.set_cons_zero, List.set_cons_succ]
    clear z0 z1 z2
    refine wpAnyH_done (by kernel_rfl) ?_ _
    have Y := Lib.hid A7.out.2.1
    go_wp2_with fail
    have Y0 := Lib.hid (Y.out.below (Below.refl _ _).drew Y.out.t.le)
    refine wp_region_held_drew (S := fun w' => (w'.cell? ⟨b, 0, none⟩ = some (.int .i64 ((m : Int) - 1)) ∧ w'.cell? ⟨b, 1, none⟩ = some (.slice A l c)) ∧ w'.cell? ⟨p, 3, none⟩ = some (.map (some bm))) (by kernel_rfl) Y0.out.s3 (fun k0 => ?_)
    refine wpAnyH_take (i := 0) (oi := ⟨some 21, _, _, _, _, _⟩) (v := ?_) rfl (by kernel_rfl) (by kernel_rfl) (by kernel_rfl) (fun _ _ _ h => h) (Or.inl ⟨by rfl, ?_⟩) k0 ?_
    rotate_left
    · intro w hSw
      try dsimp only at hSw
      go_simp
      try with_reducible rfl
    try simp only [Act.put, List.setIfInBounds_toArray, List.set_cons_zero, List.set_cons_succ]
    refine wpAnyH_take (i := 1) (oi := ⟨some 22, _, _, _, _, _⟩) (v := ?_) rfl (by kernel_rfl) (by kernel_rfl) (by kernel_rfl) (fun _ _ _ h => h) (Or.inl ⟨by rfl, ?_⟩) k0 ?_
    rotate_left
    · intro w hSw
      try dsimp only at hSw
      go_simp
      try with_reducible rfl
    try simp only [Act.put, List.setIfInBounds_toArray, List.set_cons_zero, List.set_cons_succ]
    refine wpAnyH_take (i := 2) (oi := ⟨some 23, _, _, _, _, _⟩) (v := ?_) rfl (by kernel_rfl) (by kernel_rfl) (by kernel_rfl) (fun _ _ _ h => h) (Or.inl ⟨by rfl, ?_⟩) k0 ?_
    rotate_left
    · intro w hSw
      try dsimp only at hSw
      go_simp
      try with_reducible rfl
    try simp only [Act.put, List.setIfInBounds_toArray, List.set_cons_zero, List.set_cons_succ]
    refine wpAnyH_take (i := 3) (oi := ⟨some 24, _, _, _, _, _⟩) (v := ?_) rfl (by kernel_rfl) (by kernel_rfl) (by kernel_rfl) (fun _ _ _ h => h) (Or.inl ⟨by rfl, ?_⟩) k0 ?_
    rotate_left
    · intro w hSw
      try dsimp only at hSw
      go_simp
      try with_reducible rfl
    try simp only [Act.put, List.setIfInBounds_toArray, List.set_cons_zero, List.set_cons_succ]
    refine wpAnyH_take (i := 4) (oi := ⟨some 25, _, _, _, _, _⟩) (v := ?_) rfl (by kernel_rfl) (by kernel_rfl) (by kernel_rfl) (fun _ _ _ h => h) (Or.inl ⟨by rfl, ?_⟩) k0 ?_
    rotate_left
    · intro w hSw
      try dsimp only at hSw
      go_simp
      try with_reducible rfl
    try simp only [Act.put, List.setIfInBounds_toArray, List.set_cons_zero, List.set_cons_succ]
    refine wpAnyH_take (i := 6) (oi := ⟨some 27, _, _, _, _, _⟩) (v := ?_) rfl (by kernel_rfl) (by kernel_rfl) (by kernel_rfl) (fun _ _ _ h => h) (Or.inl ⟨by rfl, ?_⟩) k0 ?_
    rotate_left
    · intro w hSw
      try dsimp only at hSw
      go_simp
      try with_reducible rfl
    try simp only [Act.put, List.setIfInBounds_toArray, List.set_cons_zero, List.set_cons_succ]
    refine wpAnyH_ready (rs := [5]) (by kernel_rfl) (by simp) ?_
    refine (AllReadyH.cons (o := ⟨some 26, _, _, _, _, _⟩) rfl (fun K hK => ?_) AllReadyH.nil)
    go_simp
    refine (HTx.out _ Y0.out.low (by rw [← HLl.out]; exact Y0.out.t.zs L.length _ (by rw [List.getElem?_append_right (Nat.le_refl _), Nat.sub_self]; rfl))).mono ?_
    rintro e w4 ⟨rfl, hb4⟩
    have Y4 := Lib.hid (Y0.out.below hb4 Y0.out.t.le)
    clear hb4
    go_wp2_with fail
    refine hK.out _ _ (Y4.out.s3) (fun k1 => ?_)
    clear hK K
    try simp only [Act.put, List.setIfInBounds_toArray, List.set_cons_zero, List.set_cons_succ]
    refine wpAnyH_ready (rs := [7]) (by kernel_rfl) (by simp) ?_
    refine (AllReadyH.cons (o := ⟨none, _, _, _, _, _⟩) rfl (fun K hK => ?_) AllReadyH.nil)
    obtain ⟨w5, hrun, hs5, hg5⟩ := Y4.out.t.ids.put (textZ m R) (L.length : Int) HKl.out (by have := HL.out; unfold I64; omega) (by have := HL.out; unfold maxLen; omega)
    have T5 := Lib.hid (Y4.out.t.sign HN.out hs5 hg5)
    have Z5 := Lib.hid (Y4.out.z.kept hg5 (by simpa using (fun e : b = bm => HNe.out.2.2 e)))
    have L5 := Lib.hid (Y4.out.low.grown hg5 Y4.out.t.le (fun q e => by cases e; exact Y4.out.t.hb))
    have S5 := Lib.hid (Y4.out.sd.grown hg5 (fun q e => by cases e; exact .inl rfl))
    clear hs5 hg5
    go_simp
    refine hK.out _ _ (⟨⟨Z5.out.cell0, Z5.out.cell1⟩, T5.out.tb.cell 3⟩) (fun k2 => ?_)
    clear hK K
    try simp only [Act.put, List.setIfInBounds_toArray, List.set_cons_zero, List.set_cons_succ]
    refine wpAnyH_done (by kernel_rfl) ?_ _
    clear hrun
    go_wp2_with fail
    go_ret
    exact ⟨rfl, L5.out, _, T5.out, S5.out⟩
end
end Go.Proofs.YtlkbapcienjdcaaDoor
