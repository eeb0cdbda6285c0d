/- The parse layer: an enum. -/
import Derived.Test.YteaongdlbleehaaGreatDoorPsVar
import Derived.Test.YteaongdlbleehaaGreatDoorPsBlk
import Derived.Test.YteaongdlbleehaaGreatDoorTrProgS
namespace Go.Proofs.YteaongdlbleehaaGreatDoor
open Go.RowKit
section
variable {B b len k n : Nat} {M : Value} {s : PS} {w : World}
theorem ps_row_slice {base : Nat} {T : TypeId} {j : Nat} {v : Value} {n : Nat} {xs : List Value} (h : w.ownsRow base T j v n xs) : ∃ A c, v = .slice A n c := by
  rcases h.2 with ⟨rfl, h0⟩ | ⟨g, cap, cur, rfl, -⟩
  · exact ⟨none, 0, by rw [h0]⟩
  · exact ⟨_, _, rfl⟩
theorem pstrinfo : (Tryz.prog.info? 9).map (fun i => (i.zero, i.size, i.bytes)) = some (some (.string ⟨#[]⟩), 1, 16) := by kernel_rfl
/-- Texts. -/
def kStr : Kind ByteArray where
  good _ _ x cs := cs = [.string x]
  mono _ h := h
  kept _ h := h
theorem own_str {w : World} {base : Nat} {T : TypeId} {v : Value} {l : List ByteArray} (h : OwnL kStr T 1 base w v l) (hl : l.length * 16 ≤ 140737488355328) : StrR (fun q => base ≤ q ∧ q < w.heap.size) w l v := by
  obtain ⟨A, cap, h1, h2, h3⟩ := h.row
  refine ⟨A, cap, h1, h2, hl, fun i x hx => ?_⟩
  obtain ⟨b, cs, e1, e2, e3, e4, rfl⟩ := h3 i x hx
  exact ⟨b, 0, e1, e2, by have := e4 0 (by omega); simpa using this⟩
theorem news_one {w : World} {g : Nat} {t : TypeId} {a : Value} (h : Blk w g t #[a]) : ∀ (j : Nat) (u : Value), [a][j]? = some u → w.cell? ((⟨g, 0, none⟩ : Addr).add j) = some u := fun j u hu => by
  rw [Addr.add_lit, Nat.zero_add]
  exact (h.cell j).trans (by simpa using hu)
theorem one_one (a : ByteArray) : ∀ u ∈ [Value.string a], u.oneCell' = true := by
  intro u hu
  simp at hu
  rw [hu]; rfl
theorem BX.grown {T : TypeId} {cs : Array Value} {W W' : World} {row : Option Nat} (h : BX B b len M k w T cs s W) (hg : W.grownBy W' row) (hr : ∀ g, row = some g → w.heap.size < g) : BX B b len M k w T cs s W' :=
  ⟨h.par.grown hg (fun g e => Nat.lt_trans h.hb (hr g e)), h.pd.grown hg (fun g e => Nat.le_of_lt (hr g e)), (hg.block w.heap.size h.r.lt (fun e => Nat.lt_irrefl _ (hr _ e.symm))).trans h.r, h.hb⟩
theorem more_stop (g : Nat) {s : PS} (l : List ByteArray) (h : isF len [44] s = false) : moreN len g s l = (s, l) := by
  cases g with
  | zero => rfl
  | succ g => simp only [moreN]; rw [h]; rfl
theorem more_more (g : Nat) {s : PS} (l : List ByteArray) (h : isF len [44] s = true) : moreN len (g + 1) s l = moreN len g (nameF len (takeF s)).1 (l ++ [bA (nameF len (takeF s)).2]) := by
  simp only [moreN]; rw [h]; rfl
/-- What enum tells. -/
def RetEn (B b len : Nat) (M : Value) (k : Nat) (r : PS × (ByteArray × List ByteArray)) (w : World) (e : Ending) (w' : World) : Prop :=
  ∃ L, e = .returned (.agg #[.string r.2.1, L]) ∧ Par B b len M k 0 r.1 w' ∧ Pd b w w' ∧ StrR (fun q => w.heap.size ≤ q ∧ q < w'.heap.size) w' r.2.2 L
/-- What stands at each round of enum. -/
def EnI (B b len : Nat) (M : Value) (k : Nat) (w : World) (g3 : Nat) (NM : ByteArray) (R : PS × List ByteArray) (gk : Nat) (wr : World) : Prop :=
  ∃ s l v g, s.ts.length ≤ gk ∧ s.ts.length + 1 ≤ g ∧ l.length + s.ts.length ≤ 4097 ∧ BX B b len M k w 67 #[.string ⟨#[]⟩, .slice none 0 0] s wr ∧ Blk wr g3 67 #[.string NM, v] ∧ OwnL kStr 9 1 (g3 + 1) wr v l ∧ moreN len g s l = R
set_option maxHeartbeats 6400000 in
set_option maxRecDepth 100000 in
theorem enum_any (h : Par B b len M k 0 s w) : Calls Tryz.prog 88 #[.pointer (some ⟨b, 0, none⟩)] w (RetEn B b len M k (enumP len s) w) := by
  obtain ⟨a, ha⟩ : ∃ q, q = nameF len s := ⟨_, rfl⟩
  have HNm : Hid (∀ w, Par B b len M k 0 s w → Calls Tryz.prog 90 #[.pointer (some ⟨b, 0, none⟩)] w (RetP B b len M k 0 (.string (bA a.2)) a.1 w)) := Lib.hid fun w h => by rw [ha]; exact name_any h
  obtain ⟨p1, hp1⟩ : ∃ q, q = expF len [123] a.1 := ⟨_, rfl⟩
  have HX1 : Hid (∀ w, Par B b len M k 0 a.1 w → Calls Tryz.prog 51 #[.pointer (some ⟨b, 0, none⟩), .string ⟨#[123]⟩] w (RetP B b len M k 0 (.tuple #[]) p1 w)) := Lib.hid fun w h => by rw [hp1]; exact expect_any [123] h
  obtain ⟨c, hc⟩ : ∃ q, q = nameF len p1 := ⟨_, rfl⟩
  have HNc : Hid (∀ w, Par B b len M k 0 p1 w → Calls Tryz.prog 90 #[.pointer (some ⟨b, 0, none⟩)] w (RetP B b len M k 0 (.string (bA c.2)) c.1 w)) := Lib.hid fun w h => by rw [hc]; exact name_any h
  obtain ⟨R, hRd⟩ : ∃ q, q = moreN len (c.1.ts.length + 1) c.1 [bA c.2] := ⟨_, rfl⟩
  have HRd := Lib.hid hRd
  obtain ⟨NM, hNM⟩ : ∃ q, q = bA a.2 := ⟨_, rfl⟩
  have HRes : Hid (enumP len s = (expF len [125] R.1, (NM, R.2))) := Lib.hid (by rw [hRd, hNM, hc, hp1, ha]; rfl)
  rw [← hNM] at HNm
  obtain ⟨W0, hW0⟩ : ∃ W0, W0 = w.alloc (.cells #[.string ⟨#[]⟩, .slice none 0 0] 67) := ⟨_, rfl⟩
  have S0 : Hid (BX B b len M k w 67 #[.string ⟨#[]⟩, .slice none 0 0] s W0) := Lib.hid (by rw [hW0]; exact BX.new h _ _)
  have HW0 := Lib.hid hW0
  obtain ⟨i0, hi0, hz0, hz1, hz2⟩ := info_parts pstrinfo
  have HI0 := Lib.hid (And.intro hi0 (And.intro hz0 (And.intro hz1 hz2)))
  have HL0 : Hid (([] : List ByteArray).length ≤ 4097) := Lib.hid (Nat.zero_le _)
  clear hW0 h ha hp1 hc hRd hNM hi0 hz0 hz1 hz2
  go_enter Tryz.func88, Tryz.ntmps88
  go_upto_region 1 with fail
  rw [← HW0.out]
  go_upto_region 2 with (go_at_call 90; have HY := HNm.out _ S0.out.par; (with_reducible refine HY.mono ?_); clear HY; rintro e w1 ⟨rfl, hp, hd⟩; have S1 := Lib.hid (S0.out.step hp hd); clear hp hd)
  obtain ⟨g3, hg3⟩ : ∃ q, q = w1.heap.size := ⟨_, rfl⟩
  obtain ⟨W2, hW2⟩ : ∃ q, q = w1.alloc (.cells #[.string NM, .slice none 0 0] 67) := ⟨_, rfl⟩
  have E2 : Hid (Below w1.heap.size w1 W2) := Lib.hid (by rw [hW2]; exact (Below.refl _ _).alloc (Nat.le_refl _) _)
  have S2 := Lib.hid (S1.out.below E2.out)
  have T2 : Hid (Blk W2 g3 67 #[.string NM, .slice none 0 0]) := Lib.hid (by rw [hW2, hg3]; exact Blk.new w1 _ _)
  have HG : Hid (w.heap.size < g3 ∧ b < g3) := Lib.hid (by rw [hg3]; exact ⟨S1.out.r.lt, Nat.lt_trans S1.out.hb S1.out.r.lt⟩)
  rw [← hW2, ← hg3]
  clear hW2 hg3
  go_upto_region 3 with (go_at_call 51; have HY := HX1.out _ S2.out.par; (with_reducible refine HY.mono ?_); clear HY; rintro e w3 ⟨rfl, hp, hd⟩; have S3 := Lib.hid (S2.out.step hp hd); have T3 := Lib.hid (hd.blk T2.out (Nat.ne_of_gt HG.out.2)); clear hp hd)
  have SD : Hid (BX B b len M k w 67 #[.string ⟨#[]⟩, .slice none 0 0] p1 w3.drew) := Lib.hid (S3.out.below (Below.refl _ _).drew)
  have TD : Hid (Blk w3.drew g3 67 #[.string NM, .slice none 0 0]) := Lib.hid T3.out
  have OD : Hid (OwnL kStr 9 1 (g3 + 1) w3.drew (.slice none 0 0) []) := Lib.hid (OwnL.nil _ _)
  clear S3 T3 S2 T2 S1 S0
  refine wp_region_held_drew (S := fun _ => True) (by kernel_rfl) trivial (fun k0 => ?_)
  refine wpAnyH_take (i := 0) (oi := ⟨some 9, _, _, _, _, _⟩) (v := ?_) rfl (by kernel_rfl) (by kernel_rfl) (by kernel_rfl) (fun _ _ _ h => h) (Or.inl ⟨by rfl, ?_⟩) k0 ?_
  rotate_left
  · intro w hSw
    try dsimp only at hSw
    go_simp
    try with_reducible rfl
  try simp only [Act.put, List.setIfInBounds_toArray, List.set_cons_zero, List.set_cons_succ]
  refine wpAnyH_take (i := 2) (oi := ⟨some 11, _, _, _, _, _⟩) (v := ?_) rfl (by kernel_rfl) (by kernel_rfl) (by kernel_rfl) (fun _ _ _ h => h) (Or.inl ⟨by rfl, ?_⟩) k0 ?_
  rotate_left
  · intro w hSw
    try dsimp only at hSw
    go_simp
    try with_reducible rfl
  try simp only [Act.put, List.setIfInBounds_toArray, List.set_cons_zero, List.set_cons_succ]
  refine wpAnyH_ready (rs := [1, 3]) (by kernel_rfl) (by simp) ?_
  refine (AllReadyH.cons (o := ⟨some 10, _, _, _, _, _⟩) rfl (fun K' hK => ?_) (AllReadyH.cons (o := ⟨some 12, _, _, _, _, _⟩) rfl (fun K' hK => ?_) AllReadyH.nil))
  · have tf : (w3.drew).cell? ⟨g3, 1, none⟩ = some (.slice none 0 0) := TD.out.cell 1
    go_simp
    refine hK.out _ _ trivial (fun h1 => ?_)
    clear hK K'
    try simp only [Act.put, List.setIfInBounds_toArray, List.set_cons_zero, List.set_cons_succ]
    clear tf
    refine wpAnyH_ready (rs := [3]) (by kernel_rfl) (by simp) ?_
    refine (AllReadyH.cons (o := ⟨some 12, _, _, _, _, _⟩) rfl (fun K' hK => ?_) AllReadyH.nil)
    go_simp
    refine (HNc.out _ SD.out.par).mono ?_
    rintro e w4 ⟨rfl, hp, hd⟩
    have S4 := Lib.hid (SD.out.step hp hd)
    have T4 := Lib.hid (hd.blk TD.out (Nat.ne_of_gt HG.out.2))
    have O4 := Lib.hid (OD.out.pd hd (Nat.lt_succ_of_lt HG.out.2))
    clear hp hd
    go_wp2_with fail
    refine hK.out _ _ trivial (fun h2 => ?_)
    clear hK K'
    try simp only [Act.put, List.setIfInBounds_toArray, List.set_cons_zero, List.set_cons_succ]
    refine wpAnyH_ready (rs := [4]) (by kernel_rfl) (by simp) ?_
    refine (AllReadyH.cons (o := ⟨some 13, _, _, _, _, _⟩) rfl (fun K' hK => ?_) AllReadyH.nil)
    have B5 : Hid (Below w4.heap.size w4 (w4.alloc (.cells #[.string (bA c.2)] 9))) := Lib.hid ((Below.refl _ _).alloc (Nat.le_refl _) _)
    have S5 := Lib.hid (S4.out.below B5.out)
    have T5 := Lib.hid (T4.out.below B5.out T4.out.lt)
    have O5 := Lib.hid (O4.out.below B5.out)
    have N5 := Lib.hid (Blk.new w4 9 #[.string (bA c.2)])
    go_simp
    refine hK.out _ _ trivial (fun h3 => ?_)
    clear hK K'
    try simp only [Act.put, List.setIfInBounds_toArray, List.set_cons_zero, List.set_cons_succ]
    refine wpAnyH_ready (rs := [5]) (by kernel_rfl) (by simp) ?_
    refine (AllReadyH.cons (o := ⟨some 14, _, _, _, _, _⟩) rfl (fun K' hK => ?_) AllReadyH.nil)
    obtain ⟨css, hcs1, hcs2, hcs3⟩ := O5.out
    rw [if_pos (by rfl)]
    refine wp_append_at (.tmp 10) (.tmp 13) 65 rfl (g3 + 1) 9 i0 (.string ⟨#[]⟩) 1 16 Tryz.underlying65 HI0.out.1 HI0.out.2.1 HI0.out.2.2.1 HI0.out.2.2.2 rfl (by decide) (.slice none 0 0) ([] : List ByteArray).length css.flatten rfl hcs2 ⟨w4.heap.size, 0, none⟩ 1 1 [.string (bA c.2)] rfl rfl (news_one N5.out) (one_one _) (by have := HL0.out; unfold maxLen; omega) (by have := HL0.out; omega) T5.out.lt ?_
    intro v6 w6 ho hg hv
    have O6 : Hid (OwnL kStr 9 1 (g3 + 1) w6 v6 (([] : List ByteArray) ++ [(bA c.2)])) := Lib.hid (OwnL.more hcs1 hcs3 ho hg hv rfl rfl)
    have S6 := Lib.hid (S5.out.grown hg (fun g e => Nat.lt_of_lt_of_le HG.out.1 (Nat.le_of_succ_le (O5.out.lt g e).1)))
    have T6 : Hid (Blk w6 g3 67 #[.string NM, (.slice none 0 0)]) := Lib.hid ((hg.block g3 T5.out.lt (fun e => absurd (O5.out.lt g3 e.symm).1 (Nat.not_succ_le_self _))).trans T5.out)
    obtain ⟨A6, n6, c6, rfl⟩ : ∃ A n c, v6 = .slice A n c := by
      obtain ⟨A, c, e⟩ := ps_row_slice ho
      exact ⟨A, _, c, e⟩
    clear ho hg hv hcs1 hcs2 hcs3
    refine hK.out _ _ trivial (fun h9 => ?_)
    clear hK K'
    try simp only [Act.put, List.setIfInBounds_toArray, List.set_cons_zero, List.set_cons_succ]
    refine wpAnyH_take (i := 6) (oi := ⟨some 15, _, _, _, _, _⟩) (v := ?_) rfl (by kernel_rfl) (by kernel_rfl) (by kernel_rfl) (fun _ _ _ h => h) (Or.inl ⟨by rfl, ?_⟩) h9 ?_
    rotate_left
    · intro w hSw
      try dsimp only at hSw
      go_simp
      try with_reducible rfl
    try simp only [Act.put, List.setIfInBounds_toArray, List.set_cons_zero, List.set_cons_succ]
    refine wpAnyH_ready (rs := [7]) (by kernel_rfl) (by simp) ?_
    refine (AllReadyH.cons (o := ⟨none, _, _, _, _, _⟩) rfl (fun K' hK => ?_) AllReadyH.nil)
    have t0 := T6.out.cell 1
    have t1 := T6.out.frozen 1
    have t2 := T6.out.lt
    simp at t0
    go_simp
    refine hK.out _ _ trivial (fun h10 => ?_)
    clear hK K'
    try simp only [Act.put, List.setIfInBounds_toArray, List.set_cons_zero, List.set_cons_succ]
    clear t0 t1 t2
    refine wpAnyH_done (by kernel_rfl) ?_ _
    obtain ⟨w7, hw7⟩ : ∃ x, x = w6.setCell ⟨g3, 1, none⟩ (.slice A6 n6 c6) := ⟨_, rfl⟩
    have S7 : Hid (BX B b len M k w 67 #[.string ⟨#[]⟩, .slice none 0 0] c.1 w7) := Lib.hid (by rw [hw7]; exact S6.out.far (p := ⟨g3, 1, none⟩) HG.out.1 _)
    have T7 : Hid (Blk w7 g3 67 #[.string NM, (.slice A6 n6 c6)]) := Lib.hid (by rw [hw7]; exact T6.out.set_ 1 _)
    have O7 : Hid (OwnL kStr 9 1 (g3 + 1) w7 (.slice A6 n6 c6) (([] : List ByteArray) ++ [(bA c.2)])) := Lib.hid (by rw [hw7]; exact O6.out.set_ ⟨g3, 1, none⟩ _ (Nat.lt_succ_self _))
    rw [← hw7]
    clear hw7 S6 T6 O6
    have HST : Hid (EnI B b len M k w g3 NM R c.1.ts.length w7) := Lib.hid ⟨c.1, [bA c.2], .slice A6 n6 c6, c.1.ts.length + 1, Nat.le_refl _, Nat.le_refl _, by simp only [List.length_cons, List.length_nil]; obtain ⟨_, _, _, _, q, _⟩ := S7.out.par.mem; omega, S7.out, T7.out, O7.out, HRd.out.symm⟩
    clear S7 T7 O7 HI0 S5 T5 O5 S4 T4 O4 B5 N5 SD TD OD
    go_wp2_with fail
    go_loopg [17] c.1.ts.length (fun gk _ wr => EnI B b len M k w g3 NM R gk wr)
    case atStart => exact HST.out
    case round =>
      obtain ⟨s1, l, v, g, hgk, hg1, hln, hs, ht, ho, hrw⟩ := hrel
      have HGk := Lib.hid hgk
      have HG1 := Lib.hid hg1
      have HLn := Lib.hid hln
      have S5 := Lib.hid hs
      have T5 := Lib.hid ht
      have O5 := Lib.hid ho
      have HRw := Lib.hid hrw
      obtain ⟨Av, cv, rfl⟩ : ∃ A c, v = .slice A l.length c := by
        obtain ⟨A9, c9, e, -⟩ := ho.row
        exact ⟨_, _, e⟩
      clear hgk hg1 hln hs ht ho hrw HST
      obtain ⟨bj, hbj⟩ : ∃ q, q = isF len [44] s1 := ⟨_, rfl⟩
      have HSk : Hid (∀ w, Par B b len M k 0 s1 w → Calls Tryz.prog 87 #[.pointer (some ⟨b, 0, none⟩), .string ⟨#[44]⟩] w (RetP B b len M k 0 (.bool bj) (if bj then takeF s1 else s1) w)) := Lib.hid fun w h => by
        have := skip_any [44] h
        unfold skipF at this
        rw [← hbj] at this
        exact this
      have HBj := Lib.hid hbj.symm
      clear hbj
      cases bj
      · skip
        have HRr : Hid ((s1, l) = R) := Lib.hid (by rw [← HRw.out]; exact (more_stop _ _ HBj.out).symm)
        have HX9 : Hid (∀ w, Par B b len M k 0 s1 w → Calls Tryz.prog 51 #[.pointer (some ⟨b, 0, none⟩), .string ⟨#[125]⟩] w (RetP B b len M k 0 (.tuple #[]) (expF len [125] s1) w)) := Lib.hid fun w h => expect_any [125] h
        go_upto_region 6 with (go_at_call 87; have HY := HSk.out _ S5.out.par; (with_reducible refine HY.mono ?_); clear HY; rintro e w8 ⟨rfl, hp, hd⟩; have S8 := Lib.hid (S5.out.step hp hd); have T8 := Lib.hid (hd.blk T5.out (Nat.ne_of_gt HG.out.2)); have O8 := Lib.hid (O5.out.pd hd (Nat.lt_succ_of_lt HG.out.2)); clear hp hd)
        go_upto_region 7 with (go_at_call 51; have HY := HX9.out _ S8.out.par; (with_reducible refine HY.mono ?_); clear HY; rintro e w9 ⟨rfl, hp, hd⟩; have S9 := Lib.hid (S8.out.step hp hd); have T9 := Lib.hid (hd.blk T8.out (Nat.ne_of_gt HG.out.2)); have O9 := Lib.hid (O8.out.pd hd (Nat.lt_succ_of_lt HG.out.2)); clear hp hd)
        have t0 := T9.out.cell 0
        have t1 := T9.out.cell 1
        simp at t0 t1
        have r0 := S9.out.r.cell 0
        have r1 := S9.out.r.cell 1
        have rf0 := S9.out.r.frozen 0
        have rf1 := S9.out.r.frozen 1
        have rl := S9.out.r.lt
        simp at r0 r1
        go_wp2
        have F := (S9.out.set_ 0 (.string NM)).set_ 1 (.slice Av l.length cv)
        have HZ := own_str ((O9.out.low (Nat.le_refl _))) (by have := HLn.out; omega)
        have q0 := F.r.cell 0
        have q1 := F.r.cell 1
        simp at q0 q1
        rw [HRes.out]
        refine bodyPost_ret (v := .agg #[.string NM, .slice Av l.length cv]) (by simp [results, Tryz.results88, go_sem, q0, q1]) rfl ⟨.slice Av l.length cv, rfl, ?_, F.pd, ?_⟩
        · rw [← HRr.out]; exact F.par
        · rw [← HRr.out]
          exact (HZ.kept (w' := (w9.setCell ⟨w.heap.size, 0, none⟩ (.string NM)).setCell ⟨w.heap.size, 1, none⟩ (.slice Av l.length cv)) (fun q hq => by
            have hne : q ≠ w.heap.size := by have := HG.out.1; have := hq.1; omega
            rw [Below.heap_setCell _ _ _ _ hne, Below.heap_setCell _ _ _ _ hne])).wide (fun q hq => ⟨by have := HG.out.1; have := hq.1; omega, by simpa [World.setCell] using hq.2⟩)
      · obtain ⟨g, rfl⟩ : ∃ q, g = q + 1 := ⟨g - 1, by have := HG1.out; omega⟩
        have hpos : 1 ≤ s1.ts.length := by
          have := HBj.out
          unfold isF at this
          exact nxt_text_pos (len := len) (by intro e; rw [e] at this; simp at this)
        obtain ⟨d, hd⟩ : ∃ q, q = nameF len (takeF s1) := ⟨_, rfl⟩
        have HNd : Hid (∀ w, Par B b len M k 0 (takeF s1) w → Calls Tryz.prog 90 #[.pointer (some ⟨b, 0, none⟩)] w (RetP B b len M k 0 (.string (bA d.2)) d.1 w)) := Lib.hid fun w h => by rw [hd]; exact name_any h
        have HDl : Hid (d.1.ts.length + 1 ≤ s1.ts.length) := Lib.hid (by have := name_len (len := len) (takeF s1); rw [take_len, ← hd] at this; omega)
        have HRw2 : Hid (moreN len g d.1 (l ++ [bA d.2]) = R) := Lib.hid (by rw [← HRw.out, hd]; exact (more_more g l HBj.out).symm)
        clear hd hpos
        obtain ⟨i0, hi0, hz0, hz1, hz2⟩ := info_parts pstrinfo
        have HI0 := Lib.hid (And.intro hi0 (And.intro hz0 (And.intro hz1 hz2)))
        clear hi0 hz0 hz1 hz2
        go_upto_region 5 with (go_at_call 87; have HY := HSk.out _ S5.out.par; (with_reducible refine HY.mono ?_); clear HY; rintro e w3 ⟨rfl, hp, hd⟩; have S3 := Lib.hid (S5.out.step hp hd); have T3 := Lib.hid (hd.blk T5.out (Nat.ne_of_gt HG.out.2)); have O3 := Lib.hid (O5.out.pd hd (Nat.lt_succ_of_lt HG.out.2)); clear hp hd)
        have SD : Hid (BX B b len M k w 67 #[.string ⟨#[]⟩, .slice none 0 0] (takeF s1) w3.drew) := Lib.hid (S3.out.below (Below.refl _ _).drew)
        have TD : Hid (Blk w3.drew g3 67 #[.string NM, (.slice Av l.length cv)]) := Lib.hid T3.out
        have OD : Hid (OwnL kStr 9 1 (g3 + 1) w3.drew (.slice Av l.length cv) l) := Lib.hid (O3.out.below (Below.refl _ _).drew)
        clear S3 T3 O3 S5 T5 O5
        refine wp_region_held_drew (S := fun _ => True) (by kernel_rfl) trivial (fun k0 => ?_)
        refine wpAnyH_take (i := 0) (oi := ⟨some 18, _, _, _, _, _⟩) (v := ?_) rfl (by kernel_rfl) (by kernel_rfl) (by kernel_rfl) (fun _ _ _ h => h) (Or.inl ⟨by rfl, ?_⟩) k0 ?_
        rotate_left
        · intro w hSw
          try dsimp only at hSw
          go_simp
          try with_reducible rfl
        try simp only [Act.put, List.setIfInBounds_toArray, List.set_cons_zero, List.set_cons_succ]
        refine wpAnyH_take (i := 2) (oi := ⟨some 20, _, _, _, _, _⟩) (v := ?_) rfl (by kernel_rfl) (by kernel_rfl) (by kernel_rfl) (fun _ _ _ h => h) (Or.inl ⟨by rfl, ?_⟩) k0 ?_
        rotate_left
        · intro w hSw
          try dsimp only at hSw
          go_simp
          try with_reducible rfl
        try simp only [Act.put, List.setIfInBounds_toArray, List.set_cons_zero, List.set_cons_succ]
        refine wpAnyH_ready (rs := [1, 3]) (by kernel_rfl) (by simp) ?_
        refine (AllReadyH.cons (o := ⟨some 19, _, _, _, _, _⟩) rfl (fun K' hK => ?_) (AllReadyH.cons (o := ⟨some 21, _, _, _, _, _⟩) rfl (fun K' hK => ?_) AllReadyH.nil))
        · have tf : (w3.drew).cell? ⟨g3, 1, none⟩ = some (.slice Av l.length cv) := TD.out.cell 1
          go_simp
          refine hK.out _ _ trivial (fun h1 => ?_)
          clear hK K'
          try simp only [Act.put, List.setIfInBounds_toArray, List.set_cons_zero, List.set_cons_succ]
          clear tf
          refine wpAnyH_ready (rs := [3]) (by kernel_rfl) (by simp) ?_
          refine (AllReadyH.cons (o := ⟨some 21, _, _, _, _, _⟩) rfl (fun K' hK => ?_) AllReadyH.nil)
          go_simp
          refine (HNd.out _ SD.out.par).mono ?_
          rintro e w4 ⟨rfl, hp, hd⟩
          have S4 := Lib.hid (SD.out.step hp hd)
          have T4 := Lib.hid (hd.blk TD.out (Nat.ne_of_gt HG.out.2))
          have O4 := Lib.hid (OD.out.pd hd (Nat.lt_succ_of_lt HG.out.2))
          clear hp hd
          go_wp2_with fail
          refine hK.out _ _ trivial (fun h2 => ?_)
          clear hK K'
          try simp only [Act.put, List.setIfInBounds_toArray, List.set_cons_zero, List.set_cons_succ]
          refine wpAnyH_ready (rs := [4]) (by kernel_rfl) (by simp) ?_
          refine (AllReadyH.cons (o := ⟨some 22, _, _, _, _, _⟩) rfl (fun K' hK => ?_) AllReadyH.nil)
          have B5 : Hid (Below w4.heap.size w4 (w4.alloc (.cells #[.string (bA d.2)] 9))) := Lib.hid ((Below.refl _ _).alloc (Nat.le_refl _) _)
          have S5 := Lib.hid (S4.out.below B5.out)
          have T5 := Lib.hid (T4.out.below B5.out T4.out.lt)
          have O5 := Lib.hid (O4.out.below B5.out)
          have N5 := Lib.hid (Blk.new w4 9 #[.string (bA d.2)])
          go_simp
          refine hK.out _ _ trivial (fun h3 => ?_)
          clear hK K'
          try simp only [Act.put, List.setIfInBounds_toArray, List.set_cons_zero, List.set_cons_succ]
          refine wpAnyH_ready (rs := [5]) (by kernel_rfl) (by simp) ?_
          refine (AllReadyH.cons (o := ⟨some 23, _, _, _, _, _⟩) rfl (fun K' hK => ?_) AllReadyH.nil)
          obtain ⟨css, hcs1, hcs2, hcs3⟩ := O5.out
          rw [if_pos (by rfl)]
          refine wp_append_at (.tmp 19) (.tmp 22) 65 rfl (g3 + 1) 9 i0 (.string ⟨#[]⟩) 1 16 Tryz.underlying65 HI0.out.1 HI0.out.2.1 HI0.out.2.2.1 HI0.out.2.2.2 rfl (by decide) (.slice Av l.length cv) l.length css.flatten rfl hcs2 ⟨w4.heap.size, 0, none⟩ 1 1 [.string (bA d.2)] rfl rfl (news_one N5.out) (one_one _) (by have := HLn.out; unfold maxLen; omega) (by have := HLn.out; omega) T5.out.lt ?_
          intro v6 w6 ho hg hv
          have O6 : Hid (OwnL kStr 9 1 (g3 + 1) w6 v6 (l ++ [(bA d.2)])) := Lib.hid (OwnL.more hcs1 hcs3 ho hg hv rfl rfl)
          have S6 := Lib.hid (S5.out.grown hg (fun g e => Nat.lt_of_lt_of_le HG.out.1 (Nat.le_of_succ_le (O5.out.lt g e).1)))
          have T6 : Hid (Blk w6 g3 67 #[.string NM, (.slice Av l.length cv)]) := Lib.hid ((hg.block g3 T5.out.lt (fun e => absurd (O5.out.lt g3 e.symm).1 (Nat.not_succ_le_self _))).trans T5.out)
          obtain ⟨A6, n6, c6, rfl⟩ : ∃ A n c, v6 = .slice A n c := by
            obtain ⟨A, c, e⟩ := ps_row_slice ho
            exact ⟨A, _, c, e⟩
          clear ho hg hv hcs1 hcs2 hcs3
          refine hK.out _ _ trivial (fun h9 => ?_)
          clear hK K'
          try simp only [Act.put, List.setIfInBounds_toArray, List.set_cons_zero, List.set_cons_succ]
          refine wpAnyH_take (i := 6) (oi := ⟨some 24, _, _, _, _, _⟩) (v := ?_) rfl (by kernel_rfl) (by kernel_rfl) (by kernel_rfl) (fun _ _ _ h => h) (Or.inl ⟨by rfl, ?_⟩) h9 ?_
          rotate_left
          · intro w hSw
            try dsimp only at hSw
            go_simp
            try with_reducible rfl
          try simp only [Act.put, List.setIfInBounds_toArray, List.set_cons_zero, List.set_cons_succ]
          refine wpAnyH_ready (rs := [7]) (by kernel_rfl) (by simp) ?_
          refine (AllReadyH.cons (o := ⟨none, _, _, _, _, _⟩) rfl (fun K' hK => ?_) AllReadyH.nil)
          have t0 := T6.out.cell 1
          have t1 := T6.out.frozen 1
          have t2 := T6.out.lt
          simp at t0
          go_simp
          refine hK.out _ _ trivial (fun h10 => ?_)
          clear hK K'
          try simp only [Act.put, List.setIfInBounds_toArray, List.set_cons_zero, List.set_cons_succ]
          clear t0 t1 t2
          refine wpAnyH_done (by kernel_rfl) ?_ _
          obtain ⟨w7, hw7⟩ : ∃ x, x = w6.setCell ⟨g3, 1, none⟩ (.slice A6 n6 c6) := ⟨_, rfl⟩
          have S7 : Hid (BX B b len M k w 67 #[.string ⟨#[]⟩, .slice none 0 0] d.1 w7) := Lib.hid (by rw [hw7]; exact S6.out.far (p := ⟨g3, 1, none⟩) HG.out.1 _)
          have T7 : Hid (Blk w7 g3 67 #[.string NM, (.slice A6 n6 c6)]) := Lib.hid (by rw [hw7]; exact T6.out.set_ 1 _)
          have O7 : Hid (OwnL kStr 9 1 (g3 + 1) w7 (.slice A6 n6 c6) (l ++ [(bA d.2)])) := Lib.hid (by rw [hw7]; exact O6.out.set_ ⟨g3, 1, none⟩ _ (Nat.lt_succ_self _))
          rw [← hw7]
          clear hw7 S6 T6 O6
          go_wp2_with fail
          go_roundg d.1.ts.length
          case rel => exact ⟨d.1, l ++ [bA d.2], .slice A6 n6 c6, g, Nat.le_refl _, by have := HDl.out; have := HG1.out; omega, by have := HDl.out; have := HLn.out; simp only [List.length_append, List.length_cons, List.length_nil]; omega, S7.out, T7.out, O7.out, HRw2.out⟩
          case measure => have := HDl.out; have := HGk.out; omega
        · go_simp
          refine (HNd.out _ SD.out.par).mono ?_
          rintro e w4 ⟨rfl, hp, hd⟩
          have S4 := Lib.hid (SD.out.step hp hd)
          have T4 := Lib.hid (hd.blk TD.out (Nat.ne_of_gt HG.out.2))
          have O4 := Lib.hid (OD.out.pd hd (Nat.lt_succ_of_lt HG.out.2))
          clear hp hd
          go_wp2_with fail
          refine hK.out _ _ trivial (fun h2 => ?_)
          clear hK K'
          try simp only [Act.put, List.setIfInBounds_toArray, List.set_cons_zero, List.set_cons_succ]
          refine wpAnyH_ready (rs := [1, 4]) (by kernel_rfl) (by simp) ?_
          refine (AllReadyH.cons (o := ⟨some 19, _, _, _, _, _⟩) rfl (fun K' hK => ?_) (AllReadyH.cons (o := ⟨some 22, _, _, _, _, _⟩) rfl (fun K' hK => ?_) AllReadyH.nil))
          · have tf : w4.cell? ⟨g3, 1, none⟩ = some (.slice Av l.length cv) := T4.out.cell 1
            go_simp
            refine hK.out _ _ trivial (fun h3 => ?_)
            clear hK K'
            try simp only [Act.put, List.setIfInBounds_toArray, List.set_cons_zero, List.set_cons_succ]
            clear tf
            refine wpAnyH_ready (rs := [4]) (by kernel_rfl) (by simp) ?_
            refine (AllReadyH.cons (o := ⟨some 22, _, _, _, _, _⟩) rfl (fun K' hK => ?_) AllReadyH.nil)
            have B5 : Hid (Below w4.heap.size w4 (w4.alloc (.cells #[.string (bA d.2)] 9))) := Lib.hid ((Below.refl _ _).alloc (Nat.le_refl _) _)
            have S5 := Lib.hid (S4.out.below B5.out)
            have T5 := Lib.hid (T4.out.below B5.out T4.out.lt)
            have O5 := Lib.hid (O4.out.below B5.out)
            have N5 := Lib.hid (Blk.new w4 9 #[.string (bA d.2)])
            go_simp
            refine hK.out _ _ trivial (fun h4 => ?_)
            clear hK K'
            try simp only [Act.put, List.setIfInBounds_toArray, List.set_cons_zero, List.set_cons_succ]
            refine wpAnyH_ready (rs := [5]) (by kernel_rfl) (by simp) ?_
            refine (AllReadyH.cons (o := ⟨some 23, _, _, _, _, _⟩) rfl (fun K' hK => ?_) AllReadyH.nil)
            obtain ⟨css, hcs1, hcs2, hcs3⟩ := O5.out
            rw [if_pos (by rfl)]
            refine wp_append_at (.tmp 19) (.tmp 22) 65 rfl (g3 + 1) 9 i0 (.string ⟨#[]⟩) 1 16 Tryz.underlying65 HI0.out.1 HI0.out.2.1 HI0.out.2.2.1 HI0.out.2.2.2 rfl (by decide) (.slice Av l.length cv) l.length css.flatten rfl hcs2 ⟨w4.heap.size, 0, none⟩ 1 1 [.string (bA d.2)] rfl rfl (news_one N5.out) (one_one _) (by have := HLn.out; unfold maxLen; omega) (by have := HLn.out; omega) T5.out.lt ?_
            intro v6 w6 ho hg hv
            have O6 : Hid (OwnL kStr 9 1 (g3 + 1) w6 v6 (l ++ [(bA d.2)])) := Lib.hid (OwnL.more hcs1 hcs3 ho hg hv rfl rfl)
            have S6 := Lib.hid (S5.out.grown hg (fun g e => Nat.lt_of_lt_of_le HG.out.1 (Nat.le_of_succ_le (O5.out.lt g e).1)))
            have T6 : Hid (Blk w6 g3 67 #[.string NM, (.slice Av l.length cv)]) := Lib.hid ((hg.block g3 T5.out.lt (fun e => absurd (O5.out.lt g3 e.symm).1 (Nat.not_succ_le_self _))).trans T5.out)
            obtain ⟨A6, n6, c6, rfl⟩ : ∃ A n c, v6 = .slice A n c := by
              obtain ⟨A, c, e⟩ := ps_row_slice ho
              exact ⟨A, _, c, e⟩
            clear ho hg hv hcs1 hcs2 hcs3
            refine hK.out _ _ trivial (fun h9 => ?_)
            clear hK K'
            try simp only [Act.put, List.setIfInBounds_toArray, List.set_cons_zero, List.set_cons_succ]
            refine wpAnyH_take (i := 6) (oi := ⟨some 24, _, _, _, _, _⟩) (v := ?_) rfl (by kernel_rfl) (by kernel_rfl) (by kernel_rfl) (fun _ _ _ h => h) (Or.inl ⟨by rfl, ?_⟩) h9 ?_
            rotate_left
            · intro w hSw
              try dsimp only at hSw
              go_simp
              try with_reducible rfl
            try simp only [Act.put, List.setIfInBounds_toArray, List.set_cons_zero, List.set_cons_succ]
            refine wpAnyH_ready (rs := [7]) (by kernel_rfl) (by simp) ?_
            refine (AllReadyH.cons (o := ⟨none, _, _, _, _, _⟩) rfl (fun K' hK => ?_) AllReadyH.nil)
            have t0 := T6.out.cell 1
            have t1 := T6.out.frozen 1
            have t2 := T6.out.lt
            simp at t0
            go_simp
            refine hK.out _ _ trivial (fun h10 => ?_)
            clear hK K'
            try simp only [Act.put, List.setIfInBounds_toArray, List.set_cons_zero, List.set_cons_succ]
            clear t0 t1 t2
            refine wpAnyH_done (by kernel_rfl) ?_ _
            obtain ⟨w7, hw7⟩ : ∃ x, x = w6.setCell ⟨g3, 1, none⟩ (.slice A6 n6 c6) := ⟨_, rfl⟩
            have S7 : Hid (BX B b len M k w 67 #[.string ⟨#[]⟩, .slice none 0 0] d.1 w7) := Lib.hid (by rw [hw7]; exact S6.out.far (p := ⟨g3, 1, none⟩) HG.out.1 _)
            have T7 : Hid (Blk w7 g3 67 #[.string NM, (.slice A6 n6 c6)]) := Lib.hid (by rw [hw7]; exact T6.out.set_ 1 _)
            have O7 : Hid (OwnL kStr 9 1 (g3 + 1) w7 (.slice A6 n6 c6) (l ++ [(bA d.2)])) := Lib.hid (by rw [hw7]; exact O6.out.set_ ⟨g3, 1, none⟩ _ (Nat.lt_succ_self _))
            rw [← hw7]
            clear hw7 S6 T6 O6
            go_wp2_with fail
            go_roundg d.1.ts.length
            case rel => exact ⟨d.1, l ++ [bA d.2], .slice A6 n6 c6, g, Nat.le_refl _, by have := HDl.out; have := HG1.out; omega, by have := HDl.out; have := HLn.out; simp only [List.length_append, List.length_cons, List.length_nil]; omega, S7.out, T7.out, O7.out, HRw2.out⟩
            case measure => have := HDl.out; have := HGk.out; omega
          · have B5 : Hid (Below w4.heap.size w4 (w4.alloc (.cells #[.string (bA d.2)] 9))) := Lib.hid ((Below.refl _ _).alloc (Nat.le_refl _) _)
            have S5 := Lib.hid (S4.out.below B5.out)
            have T5 := Lib.hid (T4.out.below B5.out T4.out.lt)
            have O5 := Lib.hid (O4.out.below B5.out)
            have N5 := Lib.hid (Blk.new w4 9 #[.string (bA d.2)])
            go_simp
            refine hK.out _ _ trivial (fun h3 => ?_)
            clear hK K'
            try simp only [Act.put, List.setIfInBounds_toArray, List.set_cons_zero, List.set_cons_succ]
            refine wpAnyH_ready (rs := [1]) (by kernel_rfl) (by simp) ?_
            refine (AllReadyH.cons (o := ⟨some 19, _, _, _, _, _⟩) rfl (fun K' hK => ?_) AllReadyH.nil)
            have tf : (w4.alloc (.cells #[.string (bA d.2)] 9)).cell? ⟨g3, 1, none⟩ = some (.slice Av l.length cv) := T5.out.cell 1
            go_simp
            refine hK.out _ _ trivial (fun h4 => ?_)
            clear hK K'
            try simp only [Act.put, List.setIfInBounds_toArray, List.set_cons_zero, List.set_cons_succ]
            clear tf
            refine wpAnyH_ready (rs := [5]) (by kernel_rfl) (by simp) ?_
            refine (AllReadyH.cons (o := ⟨some 23, _, _, _, _, _⟩) rfl (fun K' hK => ?_) AllReadyH.nil)
            obtain ⟨css, hcs1, hcs2, hcs3⟩ := O5.out
            rw [if_pos (by rfl)]
            refine wp_append_at (.tmp 19) (.tmp 22) 65 rfl (g3 + 1) 9 i0 (.string ⟨#[]⟩) 1 16 Tryz.underlying65 HI0.out.1 HI0.out.2.1 HI0.out.2.2.1 HI0.out.2.2.2 rfl (by decide) (.slice Av l.length cv) l.length css.flatten rfl hcs2 ⟨w4.heap.size, 0, none⟩ 1 1 [.string (bA d.2)] rfl rfl (news_one N5.out) (one_one _) (by have := HLn.out; unfold maxLen; omega) (by have := HLn.out; omega) T5.out.lt ?_
            intro v6 w6 ho hg hv
            have O6 : Hid (OwnL kStr 9 1 (g3 + 1) w6 v6 (l ++ [(bA d.2)])) := Lib.hid (OwnL.more hcs1 hcs3 ho hg hv rfl rfl)
            have S6 := Lib.hid (S5.out.grown hg (fun g e => Nat.lt_of_lt_of_le HG.out.1 (Nat.le_of_succ_le (O5.out.lt g e).1)))
            have T6 : Hid (Blk w6 g3 67 #[.string NM, (.slice Av l.length cv)]) := Lib.hid ((hg.block g3 T5.out.lt (fun e => absurd (O5.out.lt g3 e.symm).1 (Nat.not_succ_le_self _))).trans T5.out)
            obtain ⟨A6, n6, c6, rfl⟩ : ∃ A n c, v6 = .slice A n c := by
              obtain ⟨A, c, e⟩ := ps_row_slice ho
              exact ⟨A, _, c, e⟩
            clear ho hg hv hcs1 hcs2 hcs3
            refine hK.out _ _ trivial (fun h9 => ?_)
            clear hK K'
            try simp only [Act.put, List.setIfInBounds_toArray, List.set_cons_zero, List.set_cons_succ]
            refine wpAnyH_take (i := 6) (oi := ⟨some 24, _, _, _, _, _⟩) (v := ?_) rfl (by kernel_rfl) (by kernel_rfl) (by kernel_rfl) (fun _ _ _ h => h) (Or.inl ⟨by rfl, ?_⟩) h9 ?_
            rotate_left
            · intro w hSw
              try dsimp only at hSw
              go_simp
              try with_reducible rfl
            try simp only [Act.put, List.setIfInBounds_toArray, List.set_cons_zero, List.set_cons_succ]
            refine wpAnyH_ready (rs := [7]) (by kernel_rfl) (by simp) ?_
            refine (AllReadyH.cons (o := ⟨none, _, _, _, _, _⟩) rfl (fun K' hK => ?_) AllReadyH.nil)
            have t0 := T6.out.cell 1
            have t1 := T6.out.frozen 1
            have t2 := T6.out.lt
            simp at t0
            go_simp
            refine hK.out _ _ trivial (fun h10 => ?_)
            clear hK K'
            try simp only [Act.put, List.setIfInBounds_toArray, List.set_cons_zero, List.set_cons_succ]
            clear t0 t1 t2
            refine wpAnyH_done (by kernel_rfl) ?_ _
            obtain ⟨w7, hw7⟩ : ∃ x, x = w6.setCell ⟨g3, 1, none⟩ (.slice A6 n6 c6) := ⟨_, rfl⟩
            have S7 : Hid (BX B b len M k w 67 #[.string ⟨#[]⟩, .slice none 0 0] d.1 w7) := Lib.hid (by rw [hw7]; exact S6.out.far (p := ⟨g3, 1, none⟩) HG.out.1 _)
            have T7 : Hid (Blk w7 g3 67 #[.string NM, (.slice A6 n6 c6)]) := Lib.hid (by rw [hw7]; exact T6.out.set_ 1 _)
            have O7 : Hid (OwnL kStr 9 1 (g3 + 1) w7 (.slice A6 n6 c6) (l ++ [(bA d.2)])) := Lib.hid (by rw [hw7]; exact O6.out.set_ ⟨g3, 1, none⟩ _ (Nat.lt_succ_self _))
            rw [← hw7]
            clear hw7 S6 T6 O6
            go_wp2_with fail
            go_roundg d.1.ts.length
            case rel => exact ⟨d.1, l ++ [bA d.2], .slice A6 n6 c6, g, Nat.le_refl _, by have := HDl.out; have := HG1.out; omega, by have := HDl.out; have := HLn.out; simp only [List.length_append, List.length_cons, List.length_nil]; omega, S7.out, T7.out, O7.out, HRw2.out⟩
            case measure => have := HDl.out; have := HGk.out; omega
  · go_simp
    refine (HNc.out _ SD.out.par).mono ?_
    rintro e w4 ⟨rfl, hp, hd⟩
    have S4 := Lib.hid (SD.out.step hp hd)
    have T4 := Lib.hid (hd.blk TD.out (Nat.ne_of_gt HG.out.2))
    have O4 := Lib.hid (OD.out.pd hd (Nat.lt_succ_of_lt HG.out.2))
    clear hp hd
    go_wp2_with fail
    refine hK.out _ _ trivial (fun h2 => ?_)
    clear hK K'
    try simp only [Act.put, List.setIfInBounds_toArray, List.set_cons_zero, List.set_cons_succ]
    refine wpAnyH_ready (rs := [1, 4]) (by kernel_rfl) (by simp) ?_
    refine (AllReadyH.cons (o := ⟨some 10, _, _, _, _, _⟩) rfl (fun K' hK => ?_) (AllReadyH.cons (o := ⟨some 13, _, _, _, _, _⟩) rfl (fun K' hK => ?_) AllReadyH.nil))
    · have tf : w4.cell? ⟨g3, 1, none⟩ = some (.slice none 0 0) := T4.out.cell 1
      go_simp
      refine hK.out _ _ trivial (fun h3 => ?_)
      clear hK K'
      try simp only [Act.put, List.setIfInBounds_toArray, List.set_cons_zero, List.set_cons_succ]
      clear tf
      refine wpAnyH_ready (rs := [4]) (by kernel_rfl) (by simp) ?_
      refine (AllReadyH.cons (o := ⟨some 13, _, _, _, _, _⟩) rfl (fun K' hK => ?_) AllReadyH.nil)
      have B5 : Hid (Below w4.heap.size w4 (w4.alloc (.cells #[.string (bA c.2)] 9))) := Lib.hid ((Below.refl _ _).alloc (Nat.le_refl _) _)
      have S5 := Lib.hid (S4.out.below B5.out)
      have T5 := Lib.hid (T4.out.below B5.out T4.out.lt)
      have O5 := Lib.hid (O4.out.below B5.out)
      have N5 := Lib.hid (Blk.new w4 9 #[.string (bA c.2)])
      go_simp
      refine hK.out _ _ trivial (fun h4 => ?_)
      clear hK K'
      try simp only [Act.put, List.setIfInBounds_toArray, List.set_cons_zero, List.set_cons_succ]
      refine wpAnyH_ready (rs := [5]) (by kernel_rfl) (by simp) ?_
      refine (AllReadyH.cons (o := ⟨some 14, _, _, _, _, _⟩) rfl (fun K' hK => ?_) AllReadyH.nil)
      obtain ⟨css, hcs1, hcs2, hcs3⟩ := O5.out
      rw [if_pos (by rfl)]
      refine wp_append_at (.tmp 10) (.tmp 13) 65 rfl (g3 + 1) 9 i0 (.string ⟨#[]⟩) 1 16 Tryz.underlying65 HI0.out.1 HI0.out.2.1 HI0.out.2.2.1 HI0.out.2.2.2 rfl (by decide) (.slice none 0 0) ([] : List ByteArray).length css.flatten rfl hcs2 ⟨w4.heap.size, 0, none⟩ 1 1 [.string (bA c.2)] rfl rfl (news_one N5.out) (one_one _) (by have := HL0.out; unfold maxLen; omega) (by have := HL0.out; omega) T5.out.lt ?_
      intro v6 w6 ho hg hv
      have O6 : Hid (OwnL kStr 9 1 (g3 + 1) w6 v6 (([] : List ByteArray) ++ [(bA c.2)])) := Lib.hid (OwnL.more hcs1 hcs3 ho hg hv rfl rfl)
      have S6 := Lib.hid (S5.out.grown hg (fun g e => Nat.lt_of_lt_of_le HG.out.1 (Nat.le_of_succ_le (O5.out.lt g e).1)))
      have T6 : Hid (Blk w6 g3 67 #[.string NM, (.slice none 0 0)]) := Lib.hid ((hg.block g3 T5.out.lt (fun e => absurd (O5.out.lt g3 e.symm).1 (Nat.not_succ_le_self _))).trans T5.out)
      obtain ⟨A6, n6, c6, rfl⟩ : ∃ A n c, v6 = .slice A n c := by
        obtain ⟨A, c, e⟩ := ps_row_slice ho
        exact ⟨A, _, c, e⟩
      clear ho hg hv hcs1 hcs2 hcs3
      refine hK.out _ _ trivial (fun h9 => ?_)
      clear hK K'
      try simp only [Act.put, List.setIfInBounds_toArray, List.set_cons_zero, List.set_cons_succ]
      refine wpAnyH_take (i := 6) (oi := ⟨some 15, _, _, _, _, _⟩) (v := ?_) rfl (by kernel_rfl) (by kernel_rfl) (by kernel_rfl) (fun _ _ _ h => h) (Or.inl ⟨by rfl, ?_⟩) h9 ?_
      rotate_left
      · intro w hSw
        try dsimp only at hSw
        go_simp
        try with_reducible rfl
      try simp only [Act.put, List.setIfInBounds_toArray, List.set_cons_zero, List.set_cons_succ]
      refine wpAnyH_ready (rs := [7]) (by kernel_rfl) (by simp) ?_
      refine (AllReadyH.cons (o := ⟨none, _, _, _, _, _⟩) rfl (fun K' hK => ?_) AllReadyH.nil)
      have t0 := T6.out.cell 1
      have t1 := T6.out.frozen 1
      have t2 := T6.out.lt
      simp at t0
      go_simp
      refine hK.out _ _ trivial (fun h10 => ?_)
      clear hK K'
      try simp only [Act.put, List.setIfInBounds_toArray, List.set_cons_zero, List.set_cons_succ]
      clear t0 t1 t2
      refine wpAnyH_done (by kernel_rfl) ?_ _
      obtain ⟨w7, hw7⟩ : ∃ x, x = w6.setCell ⟨g3, 1, none⟩ (.slice A6 n6 c6) := ⟨_, rfl⟩
      have S7 : Hid (BX B b len M k w 67 #[.string ⟨#[]⟩, .slice none 0 0] c.1 w7) := Lib.hid (by rw [hw7]; exact S6.out.far (p := ⟨g3, 1, none⟩) HG.out.1 _)
      have T7 : Hid (Blk w7 g3 67 #[.string NM, (.slice A6 n6 c6)]) := Lib.hid (by rw [hw7]; exact T6.out.set_ 1 _)
      have O7 : Hid (OwnL kStr 9 1 (g3 + 1) w7 (.slice A6 n6 c6) (([] : List ByteArray) ++ [(bA c.2)])) := Lib.hid (by rw [hw7]; exact O6.out.set_ ⟨g3, 1, none⟩ _ (Nat.lt_succ_self _))
      rw [← hw7]
      clear hw7 S6 T6 O6
      have HST : Hid (EnI B b len M k w g3 NM R c.1.ts.length w7) := Lib.hid ⟨c.1, [bA c.2], .slice A6 n6 c6, c.1.ts.length + 1, Nat.le_refl _, Nat.le_refl _, by simp only [List.length_cons, List.length_nil]; obtain ⟨_, _, _, _, q, _⟩ := S7.out.par.mem; omega, S7.out, T7.out, O7.out, HRd.out.symm⟩
      clear S7 T7 O7 HI0 S5 T5 O5 S4 T4 O4 B5 N5 SD TD OD
      go_wp2_with fail
      go_loopg [17] c.1.ts.length (fun gk _ wr => EnI B b len M k w g3 NM R gk wr)
      case atStart => exact HST.out
      case round =>
        obtain ⟨s1, l, v, g, hgk, hg1, hln, hs, ht, ho, hrw⟩ := hrel
        have HGk := Lib.hid hgk
        have HG1 := Lib.hid hg1
        have HLn := Lib.hid hln
        have S5 := Lib.hid hs
        have T5 := Lib.hid ht
        have O5 := Lib.hid ho
        have HRw := Lib.hid hrw
        obtain ⟨Av, cv, rfl⟩ : ∃ A c, v = .slice A l.length c := by
          obtain ⟨A9, c9, e, -⟩ := ho.row
          exact ⟨_, _, e⟩
        clear hgk hg1 hln hs ht ho hrw HST
        obtain ⟨bj, hbj⟩ : ∃ q, q = isF len [44] s1 := ⟨_, rfl⟩
        have HSk : Hid (∀ w, Par B b len M k 0 s1 w → Calls Tryz.prog 87 #[.pointer (some ⟨b, 0, none⟩), .string ⟨#[44]⟩] w (RetP B b len M k 0 (.bool bj) (if bj then takeF s1 else s1) w)) := Lib.hid fun w h => by
          have := skip_any [44] h
          unfold skipF at this
          rw [← hbj] at this
          exact this
        have HBj := Lib.hid hbj.symm
        clear hbj
        cases bj
        · skip
          have HRr : Hid ((s1, l) = R) := Lib.hid (by rw [← HRw.out]; exact (more_stop _ _ HBj.out).symm)
          have HX9 : Hid (∀ w, Par B b len M k 0 s1 w → Calls Tryz.prog 51 #[.pointer (some ⟨b, 0, none⟩), .string ⟨#[125]⟩] w (RetP B b len M k 0 (.tuple #[]) (expF len [125] s1) w)) := Lib.hid fun w h => expect_any [125] h
          go_upto_region 6 with (go_at_call 87; have HY := HSk.out _ S5.out.par; (with_reducible refine HY.mono ?_); clear HY; rintro e w8 ⟨rfl, hp, hd⟩; have S8 := Lib.hid (S5.out.step hp hd); have T8 := Lib.hid (hd.blk T5.out (Nat.ne_of_gt HG.out.2)); have O8 := Lib.hid (O5.out.pd hd (Nat.lt_succ_of_lt HG.out.2)); clear hp hd)
          go_upto_region 7 with (go_at_call 51; have HY := HX9.out _ S8.out.par; (with_reducible refine HY.mono ?_); clear HY; rintro e w9 ⟨rfl, hp, hd⟩; have S9 := Lib.hid (S8.out.step hp hd); have T9 := Lib.hid (hd.blk T8.out (Nat.ne_of_gt HG.out.2)); have O9 := Lib.hid (O8.out.pd hd (Nat.lt_succ_of_lt HG.out.2)); clear hp hd)
          have t0 := T9.out.cell 0
          have t1 := T9.out.cell 1
          simp at t0 t1
          have r0 := S9.out.r.cell 0
          have r1 := S9.out.r.cell 1
          have rf0 := S9.out.r.frozen 0
          have rf1 := S9.out.r.frozen 1
          have rl := S9.out.r.lt
          simp at r0 r1
          go_wp2
          have F := (S9.out.set_ 0 (.string NM)).set_ 1 (.slice Av l.length cv)
          have HZ := own_str ((O9.out.low (Nat.le_refl _))) (by have := HLn.out; omega)
          have q0 := F.r.cell 0
          have q1 := F.r.cell 1
          simp at q0 q1
          rw [HRes.out]
          refine bodyPost_ret (v := .agg #[.string NM, .slice Av l.length cv]) (by simp [results, Tryz.results88, go_sem, q0, q1]) rfl ⟨.slice Av l.length cv, rfl, ?_, F.pd, ?_⟩
          · rw [← HRr.out]; exact F.par
          · rw [← HRr.out]
            exact (HZ.kept (w' := (w9.setCell ⟨w.heap.size, 0, none⟩ (.string NM)).setCell ⟨w.heap.size, 1, none⟩ (.slice Av l.length cv)) (fun q hq => by
              have hne : q ≠ w.heap.size := by have := HG.out.1; have := hq.1; omega
              rw [Below.heap_setCell _ _ _ _ hne, Below.heap_setCell _ _ _ _ hne])).wide (fun q hq => ⟨by have := HG.out.1; have := hq.1; omega, by simpa [World.setCell] using hq.2⟩)
        · obtain ⟨g, rfl⟩ : ∃ q, g = q + 1 := ⟨g - 1, by have := HG1.out; omega⟩
          have hpos : 1 ≤ s1.ts.length := by
            have := HBj.out
            unfold isF at this
            exact nxt_text_pos (len := len) (by intro e; rw [e] at this; simp at this)
          obtain ⟨d, hd⟩ : ∃ q, q = nameF len (takeF s1) := ⟨_, rfl⟩
          have HNd : Hid (∀ w, Par B b len M k 0 (takeF s1) w → Calls Tryz.prog 90 #[.pointer (some ⟨b, 0, none⟩)] w (RetP B b len M k 0 (.string (bA d.2)) d.1 w)) := Lib.hid fun w h => by rw [hd]; exact name_any h
          have HDl : Hid (d.1.ts.length + 1 ≤ s1.ts.length) := Lib.hid (by have := name_len (len := len) (takeF s1); rw [take_len, ← hd] at this; omega)
          have HRw2 : Hid (moreN len g d.1 (l ++ [bA d.2]) = R) := Lib.hid (by rw [← HRw.out, hd]; exact (more_more g l HBj.out).symm)
          clear hd hpos
          obtain ⟨i0, hi0, hz0, hz1, hz2⟩ := info_parts pstrinfo
          have HI0 := Lib.hid (And.intro hi0 (And.intro hz0 (And.intro hz1 hz2)))
          clear hi0 hz0 hz1 hz2
          go_upto_region 5 with (go_at_call 87; have HY := HSk.out _ S5.out.par; (with_reducible refine HY.mono ?_); clear HY; rintro e w3 ⟨rfl, hp, hd⟩; have S3 := Lib.hid (S5.out.step hp hd); have T3 := Lib.hid (hd.blk T5.out (Nat.ne_of_gt HG.out.2)); have O3 := Lib.hid (O5.out.pd hd (Nat.lt_succ_of_lt HG.out.2)); clear hp hd)
          have SD : Hid (BX B b len M k w 67 #[.string ⟨#[]⟩, .slice none 0 0] (takeF s1) w3.drew) := Lib.hid (S3.out.below (Below.refl _ _).drew)
          have TD : Hid (Blk w3.drew g3 67 #[.string NM, (.slice Av l.length cv)]) := Lib.hid T3.out
          have OD : Hid (OwnL kStr 9 1 (g3 + 1) w3.drew (.slice Av l.length cv) l) := Lib.hid (O3.out.below (Below.refl _ _).drew)
          clear S3 T3 O3 S5 T5 O5
          refine wp_region_held_drew (S := fun _ => True) (by kernel_rfl) trivial (fun k0 => ?_)
          refine wpAnyH_take (i := 0) (oi := ⟨some 18, _, _, _, _, _⟩) (v := ?_) rfl (by kernel_rfl) (by kernel_rfl) (by kernel_rfl) (fun _ _ _ h => h) (Or.inl ⟨by rfl, ?_⟩) k0 ?_
          rotate_left
          · intro w hSw
            try dsimp only at hSw
            go_simp
            try with_reducible rfl
          try simp only [Act.put, List.setIfInBounds_toArray, List.set_cons_zero, List.set_cons_succ]
          refine wpAnyH_take (i := 2) (oi := ⟨some 20, _, _, _, _, _⟩) (v := ?_) rfl (by kernel_rfl) (by kernel_rfl) (by kernel_rfl) (fun _ _ _ h => h) (Or.inl ⟨by rfl, ?_⟩) k0 ?_
          rotate_left
          · intro w hSw
            try dsimp only at hSw
            go_simp
            try with_reducible rfl
          try simp only [Act.put, List.setIfInBounds_toArray, List.set_cons_zero, List.set_cons_succ]
          refine wpAnyH_ready (rs := [1, 3]) (by kernel_rfl) (by simp) ?_
          refine (AllReadyH.cons (o := ⟨some 19, _, _, _, _, _⟩) rfl (fun K' hK => ?_) (AllReadyH.cons (o := ⟨some 21, _, _, _, _, _⟩) rfl (fun K' hK => ?_) AllReadyH.nil))
          · have tf : (w3.drew).cell? ⟨g3, 1, none⟩ = some (.slice Av l.length cv) := TD.out.cell 1
            go_simp
            refine hK.out _ _ trivial (fun h1 => ?_)
            clear hK K'
            try simp only [Act.put, List.setIfInBounds_toArray, List.set_cons_zero, List.set_cons_succ]
            clear tf
            refine wpAnyH_ready (rs := [3]) (by kernel_rfl) (by simp) ?_
            refine (AllReadyH.cons (o := ⟨some 21, _, _, _, _, _⟩) rfl (fun K' hK => ?_) AllReadyH.nil)
            go_simp
            refine (HNd.out _ SD.out.par).mono ?_
            rintro e w4 ⟨rfl, hp, hd⟩
            have S4 := Lib.hid (SD.out.step hp hd)
            have T4 := Lib.hid (hd.blk TD.out (Nat.ne_of_gt HG.out.2))
            have O4 := Lib.hid (OD.out.pd hd (Nat.lt_succ_of_lt HG.out.2))
            clear hp hd
            go_wp2_with fail
            refine hK.out _ _ trivial (fun h2 => ?_)
            clear hK K'
            try simp only [Act.put, List.setIfInBounds_toArray, List.set_cons_zero, List.set_cons_succ]
            refine wpAnyH_ready (rs := [4]) (by kernel_rfl) (by simp) ?_
            refine (AllReadyH.cons (o := ⟨some 22, _, _, _, _, _⟩) rfl (fun K' hK => ?_) AllReadyH.nil)
            have B5 : Hid (Below w4.heap.size w4 (w4.alloc (.cells #[.string (bA d.2)] 9))) := Lib.hid ((Below.refl _ _).alloc (Nat.le_refl _) _)
            have S5 := Lib.hid (S4.out.below B5.out)
            have T5 := Lib.hid (T4.out.below B5.out T4.out.lt)
            have O5 := Lib.hid (O4.out.below B5.out)
            have N5 := Lib.hid (Blk.new w4 9 #[.string (bA d.2)])
            go_simp
            refine hK.out _ _ trivial (fun h3 => ?_)
            clear hK K'
            try simp only [Act.put, List.setIfInBounds_toArray, List.set_cons_zero, List.set_cons_succ]
            refine wpAnyH_ready (rs := [5]) (by kernel_rfl) (by simp) ?_
            refine (AllReadyH.cons (o := ⟨some 23, _, _, _, _, _⟩) rfl (fun K' hK => ?_) AllReadyH.nil)
            obtain ⟨css, hcs1, hcs2, hcs3⟩ := O5.out
            rw [if_pos (by rfl)]
            refine wp_append_at (.tmp 19) (.tmp 22) 65 rfl (g3 + 1) 9 i0 (.string ⟨#[]⟩) 1 16 Tryz.underlying65 HI0.out.1 HI0.out.2.1 HI0.out.2.2.1 HI0.out.2.2.2 rfl (by decide) (.slice Av l.length cv) l.length css.flatten rfl hcs2 ⟨w4.heap.size, 0, none⟩ 1 1 [.string (bA d.2)] rfl rfl (news_one N5.out) (one_one _) (by have := HLn.out; unfold maxLen; omega) (by have := HLn.out; omega) T5.out.lt ?_
            intro v6 w6 ho hg hv
            have O6 : Hid (OwnL kStr 9 1 (g3 + 1) w6 v6 (l ++ [(bA d.2)])) := Lib.hid (OwnL.more hcs1 hcs3 ho hg hv rfl rfl)
            have S6 := Lib.hid (S5.out.grown hg (fun g e => Nat.lt_of_lt_of_le HG.out.1 (Nat.le_of_succ_le (O5.out.lt g e).1)))
            have T6 : Hid (Blk w6 g3 67 #[.string NM, (.slice Av l.length cv)]) := Lib.hid ((hg.block g3 T5.out.lt (fun e => absurd (O5.out.lt g3 e.symm).1 (Nat.not_succ_le_self _))).trans T5.out)
            obtain ⟨A6, n6, c6, rfl⟩ : ∃ A n c, v6 = .slice A n c := by
              obtain ⟨A, c, e⟩ := ps_row_slice ho
              exact ⟨A, _, c, e⟩
            clear ho hg hv hcs1 hcs2 hcs3
            refine hK.out _ _ trivial (fun h9 => ?_)
            clear hK K'
            try simp only [Act.put, List.setIfInBounds_toArray, List.set_cons_zero, List.set_cons_succ]
            refine wpAnyH_take (i := 6) (oi := ⟨some 24, _, _, _, _, _⟩) (v := ?_) rfl (by kernel_rfl) (by kernel_rfl) (by kernel_rfl) (fun _ _ _ h => h) (Or.inl ⟨by rfl, ?_⟩) h9 ?_
            rotate_left
            · intro w hSw
              try dsimp only at hSw
              go_simp
              try with_reducible rfl
            try simp only [Act.put, List.setIfInBounds_toArray, List.set_cons_zero, List.set_cons_succ]
            refine wpAnyH_ready (rs := [7]) (by kernel_rfl) (by simp) ?_
            refine (AllReadyH.cons (o := ⟨none, _, _, _, _, _⟩) rfl (fun K' hK => ?_) AllReadyH.nil)
            have t0 := T6.out.cell 1
            have t1 := T6.out.frozen 1
            have t2 := T6.out.lt
            simp at t0
            go_simp
            refine hK.out _ _ trivial (fun h10 => ?_)
            clear hK K'
            try simp only [Act.put, List.setIfInBounds_toArray, List.set_cons_zero, List.set_cons_succ]
            clear t0 t1 t2
            refine wpAnyH_done (by kernel_rfl) ?_ _
            obtain ⟨w7, hw7⟩ : ∃ x, x = w6.setCell ⟨g3, 1, none⟩ (.slice A6 n6 c6) := ⟨_, rfl⟩
            have S7 : Hid (BX B b len M k w 67 #[.string ⟨#[]⟩, .slice none 0 0] d.1 w7) := Lib.hid (by rw [hw7]; exact S6.out.far (p := ⟨g3, 1, none⟩) HG.out.1 _)
            have T7 : Hid (Blk w7 g3 67 #[.string NM, (.slice A6 n6 c6)]) := Lib.hid (by rw [hw7]; exact T6.out.set_ 1 _)
            have O7 : Hid (OwnL kStr 9 1 (g3 + 1) w7 (.slice A6 n6 c6) (l ++ [(bA d.2)])) := Lib.hid (by rw [hw7]; exact O6.out.set_ ⟨g3, 1, none⟩ _ (Nat.lt_succ_self _))
            rw [← hw7]
            clear hw7 S6 T6 O6
            go_wp2_with fail
            go_roundg d.1.ts.length
            case rel => exact ⟨d.1, l ++ [bA d.2], .slice A6 n6 c6, g, Nat.le_refl _, by have := HDl.out; have := HG1.out; omega, by have := HDl.out; have := HLn.out; simp only [List.length_append, List.length_cons, List.length_nil]; omega, S7.out, T7.out, O7.out, HRw2.out⟩
            case measure => have := HDl.out; have := HGk.out; omega
          · go_simp
            refine (HNd.out _ SD.out.par).mono ?_
            rintro e w4 ⟨rfl, hp, hd⟩
            have S4 := Lib.hid (SD.out.step hp hd)
            have T4 := Lib.hid (hd.blk TD.out (Nat.ne_of_gt HG.out.2))
            have O4 := Lib.hid (OD.out.pd hd (Nat.lt_succ_of_lt HG.out.2))
            clear hp hd
            go_wp2_with fail
            refine hK.out _ _ trivial (fun h2 => ?_)
            clear hK K'
            try simp only [Act.put, List.setIfInBounds_toArray, List.set_cons_zero, List.set_cons_succ]
            refine wpAnyH_ready (rs := [1, 4]) (by kernel_rfl) (by simp) ?_
            refine (AllReadyH.cons (o := ⟨some 19, _, _, _, _, _⟩) rfl (fun K' hK => ?_) (AllReadyH.cons (o := ⟨some 22, _, _, _, _, _⟩) rfl (fun K' hK => ?_) AllReadyH.nil))
            · have tf : w4.cell? ⟨g3, 1, none⟩ = some (.slice Av l.length cv) := T4.out.cell 1
              go_simp
              refine hK.out _ _ trivial (fun h3 => ?_)
              clear hK K'
              try simp only [Act.put, List.setIfInBounds_toArray, List.set_cons_zero, List.set_cons_succ]
              clear tf
              refine wpAnyH_ready (rs := [4]) (by kernel_rfl) (by simp) ?_
              refine (AllReadyH.cons (o := ⟨some 22, _, _, _, _, _⟩) rfl (fun K' hK => ?_) AllReadyH.nil)
              have B5 : Hid (Below w4.heap.size w4 (w4.alloc (.cells #[.string (bA d.2)] 9))) := Lib.hid ((Below.refl _ _).alloc (Nat.le_refl _) _)
              have S5 := Lib.hid (S4.out.below B5.out)
              have T5 := Lib.hid (T4.out.below B5.out T4.out.lt)
              have O5 := Lib.hid (O4.out.below B5.out)
              have N5 := Lib.hid (Blk.new w4 9 #[.string (bA d.2)])
              go_simp
              refine hK.out _ _ trivial (fun h4 => ?_)
              clear hK K'
              try simp only [Act.put, List.setIfInBounds_toArray, List.set_cons_zero, List.set_cons_succ]
              refine wpAnyH_ready (rs := [5]) (by kernel_rfl) (by simp) ?_
              refine (AllReadyH.cons (o := ⟨some 23, _, _, _, _, _⟩) rfl (fun K' hK => ?_) AllReadyH.nil)
              obtain ⟨css, hcs1, hcs2, hcs3⟩ := O5.out
              rw [if_pos (by rfl)]
              refine wp_append_at (.tmp 19) (.tmp 22) 65 rfl (g3 + 1) 9 i0 (.string ⟨#[]⟩) 1 16 Tryz.underlying65 HI0.out.1 HI0.out.2.1 HI0.out.2.2.1 HI0.out.2.2.2 rfl (by decide) (.slice Av l.length cv) l.length css.flatten rfl hcs2 ⟨w4.heap.size, 0, none⟩ 1 1 [.string (bA d.2)] rfl rfl (news_one N5.out) (one_one _) (by have := HLn.out; unfold maxLen; omega) (by have := HLn.out; omega) T5.out.lt ?_
              intro v6 w6 ho hg hv
              have O6 : Hid (OwnL kStr 9 1 (g3 + 1) w6 v6 (l ++ [(bA d.2)])) := Lib.hid (OwnL.more hcs1 hcs3 ho hg hv rfl rfl)
              have S6 := Lib.hid (S5.out.grown hg (fun g e => Nat.lt_of_lt_of_le HG.out.1 (Nat.le_of_succ_le (O5.out.lt g e).1)))
              have T6 : Hid (Blk w6 g3 67 #[.string NM, (.slice Av l.length cv)]) := Lib.hid ((hg.block g3 T5.out.lt (fun e => absurd (O5.out.lt g3 e.symm).1 (Nat.not_succ_le_self _))).trans T5.out)
              obtain ⟨A6, n6, c6, rfl⟩ : ∃ A n c, v6 = .slice A n c := by
                obtain ⟨A, c, e⟩ := ps_row_slice ho
                exact ⟨A, _, c, e⟩
              clear ho hg hv hcs1 hcs2 hcs3
              refine hK.out _ _ trivial (fun h9 => ?_)
              clear hK K'
              try simp only [Act.put, List.setIfInBounds_toArray, List.set_cons_zero, List.set_cons_succ]
              refine wpAnyH_take (i := 6) (oi := ⟨some 24, _, _, _, _, _⟩) (v := ?_) rfl (by kernel_rfl) (by kernel_rfl) (by kernel_rfl) (fun _ _ _ h => h) (Or.inl ⟨by rfl, ?_⟩) h9 ?_
              rotate_left
              · intro w hSw
                try dsimp only at hSw
                go_simp
                try with_reducible rfl
              try simp only [Act.put, List.setIfInBounds_toArray, List.set_cons_zero, List.set_cons_succ]
              refine wpAnyH_ready (rs := [7]) (by kernel_rfl) (by simp) ?_
              refine (AllReadyH.cons (o := ⟨none, _, _, _, _, _⟩) rfl (fun K' hK => ?_) AllReadyH.nil)
              have t0 := T6.out.cell 1
              have t1 := T6.out.frozen 1
              have t2 := T6.out.lt
              simp at t0
              go_simp
              refine hK.out _ _ trivial (fun h10 => ?_)
              clear hK K'
              try simp only [Act.put, List.setIfInBounds_toArray, List.set_cons_zero, List.set_cons_succ]
              clear t0 t1 t2
              refine wpAnyH_done (by kernel_rfl) ?_ _
              obtain ⟨w7, hw7⟩ : ∃ x, x = w6.setCell ⟨g3, 1, none⟩ (.slice A6 n6 c6) := ⟨_, rfl⟩
              have S7 : Hid (BX B b len M k w 67 #[.string ⟨#[]⟩, .slice none 0 0] d.1 w7) := Lib.hid (by rw [hw7]; exact S6.out.far (p := ⟨g3, 1, none⟩) HG.out.1 _)
              have T7 : Hid (Blk w7 g3 67 #[.string NM, (.slice A6 n6 c6)]) := Lib.hid (by rw [hw7]; exact T6.out.set_ 1 _)
              have O7 : Hid (OwnL kStr 9 1 (g3 + 1) w7 (.slice A6 n6 c6) (l ++ [(bA d.2)])) := Lib.hid (by rw [hw7]; exact O6.out.set_ ⟨g3, 1, none⟩ _ (Nat.lt_succ_self _))
              rw [← hw7]
              clear hw7 S6 T6 O6
              go_wp2_with fail
              go_roundg d.1.ts.length
              case rel => exact ⟨d.1, l ++ [bA d.2], .slice A6 n6 c6, g, Nat.le_refl _, by have := HDl.out; have := HG1.out; omega, by have := HDl.out; have := HLn.out; simp only [List.length_append, List.length_cons, List.length_nil]; omega, S7.out, T7.out, O7.out, HRw2.out⟩
              case measure => have := HDl.out; have := HGk.out; omega
            · have B5 : Hid (Below w4.heap.size w4 (w4.alloc (.cells #[.string (bA d.2)] 9))) := Lib.hid ((Below.refl _ _).alloc (Nat.le_refl _) _)
              have S5 := Lib.hid (S4.out.below B5.out)
              have T5 := Lib.hid (T4.out.below B5.out T4.out.lt)
              have O5 := Lib.hid (O4.out.below B5.out)
              have N5 := Lib.hid (Blk.new w4 9 #[.string (bA d.2)])
              go_simp
              refine hK.out _ _ trivial (fun h3 => ?_)
              clear hK K'
              try simp only [Act.put, List.setIfInBounds_toArray, List.set_cons_zero, List.set_cons_succ]
              refine wpAnyH_ready (rs := [1]) (by kernel_rfl) (by simp) ?_
              refine (AllReadyH.cons (o := ⟨some 19, _, _, _, _, _⟩) rfl (fun K' hK => ?_) AllReadyH.nil)
              have tf : (w4.alloc (.cells #[.string (bA d.2)] 9)).cell? ⟨g3, 1, none⟩ = some (.slice Av l.length cv) := T5.out.cell 1
              go_simp
              refine hK.out _ _ trivial (fun h4 => ?_)
              clear hK K'
              try simp only [Act.put, List.setIfInBounds_toArray, List.set_cons_zero, List.set_cons_succ]
              clear tf
              refine wpAnyH_ready (rs := [5]) (by kernel_rfl) (by simp) ?_
              refine (AllReadyH.cons (o := ⟨some 23, _, _, _, _, _⟩) rfl (fun K' hK => ?_) AllReadyH.nil)
              obtain ⟨css, hcs1, hcs2, hcs3⟩ := O5.out
              rw [if_pos (by rfl)]
              refine wp_append_at (.tmp 19) (.tmp 22) 65 rfl (g3 + 1) 9 i0 (.string ⟨#[]⟩) 1 16 Tryz.underlying65 HI0.out.1 HI0.out.2.1 HI0.out.2.2.1 HI0.out.2.2.2 rfl (by decide) (.slice Av l.length cv) l.length css.flatten rfl hcs2 ⟨w4.heap.size, 0, none⟩ 1 1 [.string (bA d.2)] rfl rfl (news_one N5.out) (one_one _) (by have := HLn.out; unfold maxLen; omega) (by have := HLn.out; omega) T5.out.lt ?_
              intro v6 w6 ho hg hv
              have O6 : Hid (OwnL kStr 9 1 (g3 + 1) w6 v6 (l ++ [(bA d.2)])) := Lib.hid (OwnL.more hcs1 hcs3 ho hg hv rfl rfl)
              have S6 := Lib.hid (S5.out.grown hg (fun g e => Nat.lt_of_lt_of_le HG.out.1 (Nat.le_of_succ_le (O5.out.lt g e).1)))
              have T6 : Hid (Blk w6 g3 67 #[.string NM, (.slice Av l.length cv)]) := Lib.hid ((hg.block g3 T5.out.lt (fun e => absurd (O5.out.lt g3 e.symm).1 (Nat.not_succ_le_self _))).trans T5.out)
              obtain ⟨A6, n6, c6, rfl⟩ : ∃ A n c, v6 = .slice A n c := by
                obtain ⟨A, c, e⟩ := ps_row_slice ho
                exact ⟨A, _, c, e⟩
              clear ho hg hv hcs1 hcs2 hcs3
              refine hK.out _ _ trivial (fun h9 => ?_)
              clear hK K'
              try simp only [Act.put, List.setIfInBounds_toArray, List.set_cons_zero, List.set_cons_succ]
              refine wpAnyH_take (i := 6) (oi := ⟨some 24, _, _, _, _, _⟩) (v := ?_) rfl (by kernel_rfl) (by kernel_rfl) (by kernel_rfl) (fun _ _ _ h => h) (Or.inl ⟨by rfl, ?_⟩) h9 ?_
              rotate_left
              · intro w hSw
                try dsimp only at hSw
                go_simp
                try with_reducible rfl
              try simp only [Act.put, List.setIfInBounds_toArray, List.set_cons_zero, List.set_cons_succ]
              refine wpAnyH_ready (rs := [7]) (by kernel_rfl) (by simp) ?_
              refine (AllReadyH.cons (o := ⟨none, _, _, _, _, _⟩) rfl (fun K' hK => ?_) AllReadyH.nil)
              have t0 := T6.out.cell 1
              have t1 := T6.out.frozen 1
              have t2 := T6.out.lt
              simp at t0
              go_simp
              refine hK.out _ _ trivial (fun h10 => ?_)
              clear hK K'
              try simp only [Act.put, List.setIfInBounds_toArray, List.set_cons_zero, List.set_cons_succ]
              clear t0 t1 t2
              refine wpAnyH_done (by kernel_rfl) ?_ _
              obtain ⟨w7, hw7⟩ : ∃ x, x = w6.setCell ⟨g3, 1, none⟩ (.slice A6 n6 c6) := ⟨_, rfl⟩
              have S7 : Hid (BX B b len M k w 67 #[.string ⟨#[]⟩, .slice none 0 0] d.1 w7) := Lib.hid (by rw [hw7]; exact S6.out.far (p := ⟨g3, 1, none⟩) HG.out.1 _)
              have T7 : Hid (Blk w7 g3 67 #[.string NM, (.slice A6 n6 c6)]) := Lib.hid (by rw [hw7]; exact T6.out.set_ 1 _)
              have O7 : Hid (OwnL kStr 9 1 (g3 + 1) w7 (.slice A6 n6 c6) (l ++ [(bA d.2)])) := Lib.hid (by rw [hw7]; exact O6.out.set_ ⟨g3, 1, none⟩ _ (Nat.lt_succ_self _))
              rw [← hw7]
              clear hw7 S6 T6 O6
              go_wp2_with fail
              go_roundg d.1.ts.length
              case rel => exact ⟨d.1, l ++ [bA d.2], .slice A6 n6 c6, g, Nat.le_refl _, by have := HDl.out; have := HG1.out; omega, by have := HDl.out; have := HLn.out; simp only [List.length_append, List.length_cons, List.length_nil]; omega, S7.out, T7.out, O7.out, HRw2.out⟩
              case measure => have := HDl.out; have := HGk.out; omega
    · have B5 : Hid (Below w4.heap.size w4 (w4.alloc (.cells #[.string (bA c.2)] 9))) := Lib.hid ((Below.refl _ _).alloc (Nat.le_refl _) _)
      have S5 := Lib.hid (S4.out.below B5.out)
      have T5 := Lib.hid (T4.out.below B5.out T4.out.lt)
      have O5 := Lib.hid (O4.out.below B5.out)
      have N5 := Lib.hid (Blk.new w4 9 #[.string (bA c.2)])
      go_simp
      refine hK.out _ _ trivial (fun h3 => ?_)
      clear hK K'
      try simp only [Act.put, List.setIfInBounds_toArray, List.set_cons_zero, List.set_cons_succ]
      refine wpAnyH_ready (rs := [1]) (by kernel_rfl) (by simp) ?_
      refine (AllReadyH.cons (o := ⟨some 10, _, _, _, _, _⟩) rfl (fun K' hK => ?_) AllReadyH.nil)
      have tf : (w4.alloc (.cells #[.string (bA c.2)] 9)).cell? ⟨g3, 1, none⟩ = some (.slice none 0 0) := T5.out.cell 1
      go_simp
      refine hK.out _ _ trivial (fun h4 => ?_)
      clear hK K'
      try simp only [Act.put, List.setIfInBounds_toArray, List.set_cons_zero, List.set_cons_succ]
      clear tf
      refine wpAnyH_ready (rs := [5]) (by kernel_rfl) (by simp) ?_
      refine (AllReadyH.cons (o := ⟨some 14, _, _, _, _, _⟩) rfl (fun K' hK => ?_) AllReadyH.nil)
      obtain ⟨css, hcs1, hcs2, hcs3⟩ := O5.out
      rw [if_pos (by rfl)]
      refine wp_append_at (.tmp 10) (.tmp 13) 65 rfl (g3 + 1) 9 i0 (.string ⟨#[]⟩) 1 16 Tryz.underlying65 HI0.out.1 HI0.out.2.1 HI0.out.2.2.1 HI0.out.2.2.2 rfl (by decide) (.slice none 0 0) ([] : List ByteArray).length css.flatten rfl hcs2 ⟨w4.heap.size, 0, none⟩ 1 1 [.string (bA c.2)] rfl rfl (news_one N5.out) (one_one _) (by have := HL0.out; unfold maxLen; omega) (by have := HL0.out; omega) T5.out.lt ?_
      intro v6 w6 ho hg hv
      have O6 : Hid (OwnL kStr 9 1 (g3 + 1) w6 v6 (([] : List ByteArray) ++ [(bA c.2)])) := Lib.hid (OwnL.more hcs1 hcs3 ho hg hv rfl rfl)
      have S6 := Lib.hid (S5.out.grown hg (fun g e => Nat.lt_of_lt_of_le HG.out.1 (Nat.le_of_succ_le (O5.out.lt g e).1)))
      have T6 : Hid (Blk w6 g3 67 #[.string NM, (.slice none 0 0)]) := Lib.hid ((hg.block g3 T5.out.lt (fun e => absurd (O5.out.lt g3 e.symm).1 (Nat.not_succ_le_self _))).trans T5.out)
      obtain ⟨A6, n6, c6, rfl⟩ : ∃ A n c, v6 = .slice A n c := by
        obtain ⟨A, c, e⟩ := ps_row_slice ho
        exact ⟨A, _, c, e⟩
      clear ho hg hv hcs1 hcs2 hcs3
      refine hK.out _ _ trivial (fun h9 => ?_)
      clear hK K'
      try simp only [Act.put, List.setIfInBounds_toArray, List.set_cons_zero, List.set_cons_succ]
      refine wpAnyH_take (i := 6) (oi := ⟨some 15, _, _, _, _, _⟩) (v := ?_) rfl (by kernel_rfl) (by kernel_rfl) (by kernel_rfl) (fun _ _ _ h => h) (Or.inl ⟨by rfl, ?_⟩) h9 ?_
      rotate_left
      · intro w hSw
        try dsimp only at hSw
        go_simp
        try with_reducible rfl
      try simp only [Act.put, List.setIfInBounds_toArray, List.set_cons_zero, List.set_cons_succ]
      refine wpAnyH_ready (rs := [7]) (by kernel_rfl) (by simp) ?_
      refine (AllReadyH.cons (o := ⟨none, _, _, _, _, _⟩) rfl (fun K' hK => ?_) AllReadyH.nil)
      have t0 := T6.out.cell 1
      have t1 := T6.out.frozen 1
      have t2 := T6.out.lt
      simp at t0
      go_simp
      refine hK.out _ _ trivial (fun h10 => ?_)
      clear hK K'
      try simp only [Act.put, List.setIfInBounds_toArray, List.set_cons_zero, List.set_cons_succ]
      clear t0 t1 t2
      refine wpAnyH_done (by kernel_rfl) ?_ _
      obtain ⟨w7, hw7⟩ : ∃ x, x = w6.setCell ⟨g3, 1, none⟩ (.slice A6 n6 c6) := ⟨_, rfl⟩
      have S7 : Hid (BX B b len M k w 67 #[.string ⟨#[]⟩, .slice none 0 0] c.1 w7) := Lib.hid (by rw [hw7]; exact S6.out.far (p := ⟨g3, 1, none⟩) HG.out.1 _)
      have T7 : Hid (Blk w7 g3 67 #[.string NM, (.slice A6 n6 c6)]) := Lib.hid (by rw [hw7]; exact T6.out.set_ 1 _)
      have O7 : Hid (OwnL kStr 9 1 (g3 + 1) w7 (.slice A6 n6 c6) (([] : List ByteArray) ++ [(bA c.2)])) := Lib.hid (by rw [hw7]; exact O6.out.set_ ⟨g3, 1, none⟩ _ (Nat.lt_succ_self _))
      rw [← hw7]
      clear hw7 S6 T6 O6
      have HST : Hid (EnI B b len M k w g3 NM R c.1.ts.length w7) := Lib.hid ⟨c.1, [bA c.2], .slice A6 n6 c6, c.1.ts.length + 1, Nat.le_refl _, Nat.le_refl _, by simp only [List.length_cons, List.length_nil]; obtain ⟨_, _, _, _, q, _⟩ := S7.out.par.mem; omega, S7.out, T7.out, O7.out, HRd.out.symm⟩
      clear S7 T7 O7 HI0 S5 T5 O5 S4 T4 O4 B5 N5 SD TD OD
      go_wp2_with fail
      go_loopg [17] c.1.ts.length (fun gk _ wr => EnI B b len M k w g3 NM R gk wr)
      case atStart => exact HST.out
      case round =>
        obtain ⟨s1, l, v, g, hgk, hg1, hln, hs, ht, ho, hrw⟩ := hrel
        have HGk := Lib.hid hgk
        have HG1 := Lib.hid hg1
        have HLn := Lib.hid hln
        have S5 := Lib.hid hs
        have T5 := Lib.hid ht
        have O5 := Lib.hid ho
        have HRw := Lib.hid hrw
        obtain ⟨Av, cv, rfl⟩ : ∃ A c, v = .slice A l.length c := by
          obtain ⟨A9, c9, e, -⟩ := ho.row
          exact ⟨_, _, e⟩
        clear hgk hg1 hln hs ht ho hrw HST
        obtain ⟨bj, hbj⟩ : ∃ q, q = isF len [44] s1 := ⟨_, rfl⟩
        have HSk : Hid (∀ w, Par B b len M k 0 s1 w → Calls Tryz.prog 87 #[.pointer (some ⟨b, 0, none⟩), .string ⟨#[44]⟩] w (RetP B b len M k 0 (.bool bj) (if bj then takeF s1 else s1) w)) := Lib.hid fun w h => by
          have := skip_any [44] h
          unfold skipF at this
          rw [← hbj] at this
          exact this
        have HBj := Lib.hid hbj.symm
        clear hbj
        cases bj
        · skip
          have HRr : Hid ((s1, l) = R) := Lib.hid (by rw [← HRw.out]; exact (more_stop _ _ HBj.out).symm)
          have HX9 : Hid (∀ w, Par B b len M k 0 s1 w → Calls Tryz.prog 51 #[.pointer (some ⟨b, 0, none⟩), .string ⟨#[125]⟩] w (RetP B b len M k 0 (.tuple #[]) (expF len [125] s1) w)) := Lib.hid fun w h => expect_any [125] h
          go_upto_region 6 with (go_at_call 87; have HY := HSk.out _ S5.out.par; (with_reducible refine HY.mono ?_); clear HY; rintro e w8 ⟨rfl, hp, hd⟩; have S8 := Lib.hid (S5.out.step hp hd); have T8 := Lib.hid (hd.blk T5.out (Nat.ne_of_gt HG.out.2)); have O8 := Lib.hid (O5.out.pd hd (Nat.lt_succ_of_lt HG.out.2)); clear hp hd)
          go_upto_region 7 with (go_at_call 51; have HY := HX9.out _ S8.out.par; (with_reducible refine HY.mono ?_); clear HY; rintro e w9 ⟨rfl, hp, hd⟩; have S9 := Lib.hid (S8.out.step hp hd); have T9 := Lib.hid (hd.blk T8.out (Nat.ne_of_gt HG.out.2)); have O9 := Lib.hid (O8.out.pd hd (Nat.lt_succ_of_lt HG.out.2)); clear hp hd)
          have t0 := T9.out.cell 0
          have t1 := T9.out.cell 1
          simp at t0 t1
          have r0 := S9.out.r.cell 0
          have r1 := S9.out.r.cell 1
          have rf0 := S9.out.r.frozen 0
          have rf1 := S9.out.r.frozen 1
          have rl := S9.out.r.lt
          simp at r0 r1
          go_wp2
          have F := (S9.out.set_ 0 (.string NM)).set_ 1 (.slice Av l.length cv)
          have HZ := own_str ((O9.out.low (Nat.le_refl _))) (by have := HLn.out; omega)
          have q0 := F.r.cell 0
          have q1 := F.r.cell 1
          simp at q0 q1
          rw [HRes.out]
          refine bodyPost_ret (v := .agg #[.string NM, .slice Av l.length cv]) (by simp [results, Tryz.results88, go_sem, q0, q1]) rfl ⟨.slice Av l.length cv, rfl, ?_, F.pd, ?_⟩
          · rw [← HRr.out]; exact F.par
          · rw [← HRr.out]
            exact (HZ.kept (w' := (w9.setCell ⟨w.heap.size, 0, none⟩ (.string NM)).setCell ⟨w.heap.size, 1, none⟩ (.slice Av l.length cv)) (fun q hq => by
              have hne : q ≠ w.heap.size := by have := HG.out.1; have := hq.1; omega
              rw [Below.heap_setCell _ _ _ _ hne, Below.heap_setCell _ _ _ _ hne])).wide (fun q hq => ⟨by have := HG.out.1; have := hq.1; omega, by simpa [World.setCell] using hq.2⟩)
        · obtain ⟨g, rfl⟩ : ∃ q, g = q + 1 := ⟨g - 1, by have := HG1.out; omega⟩
          have hpos : 1 ≤ s1.ts.length := by
            have := HBj.out
            unfold isF at this
            exact nxt_text_pos (len := len) (by intro e; rw [e] at this; simp at this)
          obtain ⟨d, hd⟩ : ∃ q, q = nameF len (takeF s1) := ⟨_, rfl⟩
          have HNd : Hid (∀ w, Par B b len M k 0 (takeF s1) w → Calls Tryz.prog 90 #[.pointer (some ⟨b, 0, none⟩)] w (RetP B b len M k 0 (.string (bA d.2)) d.1 w)) := Lib.hid fun w h => by rw [hd]; exact name_any h
          have HDl : Hid (d.1.ts.length + 1 ≤ s1.ts.length) := Lib.hid (by have := name_len (len := len) (takeF s1); rw [take_len, ← hd] at this; omega)
          have HRw2 : Hid (moreN len g d.1 (l ++ [bA d.2]) = R) := Lib.hid (by rw [← HRw.out, hd]; exact (more_more g l HBj.out).symm)
          clear hd hpos
          obtain ⟨i0, hi0, hz0, hz1, hz2⟩ := info_parts pstrinfo
          have HI0 := Lib.hid (And.intro hi0 (And.intro hz0 (And.intro hz1 hz2)))
          clear hi0 hz0 hz1 hz2
          go_upto_region 5 with (go_at_call 87; have HY := HSk.out _ S5.out.par; (with_reducible refine HY.mono ?_); clear HY; rintro e w3 ⟨rfl, hp, hd⟩; have S3 := Lib.hid (S5.out.step hp hd); have T3 := Lib.hid (hd.blk T5.out (Nat.ne_of_gt HG.out.2)); have O3 := Lib.hid (O5.out.pd hd (Nat.lt_succ_of_lt HG.out.2)); clear hp hd)
          have SD : Hid (BX B b len M k w 67 #[.string ⟨#[]⟩, .slice none 0 0] (takeF s1) w3.drew) := Lib.hid (S3.out.below (Below.refl _ _).drew)
          have TD : Hid (Blk w3.drew g3 67 #[.string NM, (.slice Av l.length cv)]) := Lib.hid T3.out
          have OD : Hid (OwnL kStr 9 1 (g3 + 1) w3.drew (.slice Av l.length cv) l) := Lib.hid (O3.out.below (Below.refl _ _).drew)
          clear S3 T3 O3 S5 T5 O5
          refine wp_region_held_drew (S := fun _ => True) (by kernel_rfl) trivial (fun k0 => ?_)
          refine wpAnyH_take (i := 0) (oi := ⟨some 18, _, _, _, _, _⟩) (v := ?_) rfl (by kernel_rfl) (by kernel_rfl) (by kernel_rfl) (fun _ _ _ h => h) (Or.inl ⟨by rfl, ?_⟩) k0 ?_
          rotate_left
          · intro w hSw
            try dsimp only at hSw
            go_simp
            try with_reducible rfl
          try simp only [Act.put, List.setIfInBounds_toArray, List.set_cons_zero, List.set_cons_succ]
          refine wpAnyH_take (i := 2) (oi := ⟨some 20, _, _, _, _, _⟩) (v := ?_) rfl (by kernel_rfl) (by kernel_rfl) (by kernel_rfl) (fun _ _ _ h => h) (Or.inl ⟨by rfl, ?_⟩) k0 ?_
          rotate_left
          · intro w hSw
            try dsimp only at hSw
            go_simp
            try with_reducible rfl
          try simp only [Act.put, List.setIfInBounds_toArray, List.set_cons_zero, List.set_cons_succ]
          refine wpAnyH_ready (rs := [1, 3]) (by kernel_rfl) (by simp) ?_
          refine (AllReadyH.cons (o := ⟨some 19, _, _, _, _, _⟩) rfl (fun K' hK => ?_) (AllReadyH.cons (o := ⟨some 21, _, _, _, _, _⟩) rfl (fun K' hK => ?_) AllReadyH.nil))
          · have tf : (w3.drew).cell? ⟨g3, 1, none⟩ = some (.slice Av l.length cv) := TD.out.cell 1
            go_simp
            refine hK.out _ _ trivial (fun h1 => ?_)
            clear hK K'
            try simp only [Act.put, List.setIfInBounds_toArray, List.set_cons_zero, List.set_cons_succ]
            clear tf
            refine wpAnyH_ready (rs := [3]) (by kernel_rfl) (by simp) ?_
            refine (AllReadyH.cons (o := ⟨some 21, _, _, _, _, _⟩) rfl (fun K' hK => ?_) AllReadyH.nil)
            go_simp
            refine (HNd.out _ SD.out.par).mono ?_
            rintro e w4 ⟨rfl, hp, hd⟩
            have S4 := Lib.hid (SD.out.step hp hd)
            have T4 := Lib.hid (hd.blk TD.out (Nat.ne_of_gt HG.out.2))
            have O4 := Lib.hid (OD.out.pd hd (Nat.lt_succ_of_lt HG.out.2))
            clear hp hd
            go_wp2_with fail
            refine hK.out _ _ trivial (fun h2 => ?_)
            clear hK K'
            try simp only [Act.put, List.setIfInBounds_toArray, List.set_cons_zero, List.set_cons_succ]
            refine wpAnyH_ready (rs := [4]) (by kernel_rfl) (by simp) ?_
            refine (AllReadyH.cons (o := ⟨some 22, _, _, _, _, _⟩) rfl (fun K' hK => ?_) AllReadyH.nil)
            have B5 : Hid (Below w4.heap.size w4 (w4.alloc (.cells #[.string (bA d.2)] 9))) := Lib.hid ((Below.refl _ _).alloc (Nat.le_refl _) _)
            have S5 := Lib.hid (S4.out.below B5.out)
            have T5 := Lib.hid (T4.out.below B5.out T4.out.lt)
            have O5 := Lib.hid (O4.out.below B5.out)
            have N5 := Lib.hid (Blk.new w4 9 #[.string (bA d.2)])
            go_simp
            refine hK.out _ _ trivial (fun h3 => ?_)
            clear hK K'
            try simp only [Act.put, List.setIfInBounds_toArray, List.set_cons_zero, List.set_cons_succ]
            refine wpAnyH_ready (rs := [5]) (by kernel_rfl) (by simp) ?_
            refine (AllReadyH.cons (o := ⟨some 23, _, _, _, _, _⟩) rfl (fun K' hK => ?_) AllReadyH.nil)
            obtain ⟨css, hcs1, hcs2, hcs3⟩ := O5.out
            rw [if_pos (by rfl)]
            refine wp_append_at (.tmp 19) (.tmp 22) 65 rfl (g3 + 1) 9 i0 (.string ⟨#[]⟩) 1 16 Tryz.underlying65 HI0.out.1 HI0.out.2.1 HI0.out.2.2.1 HI0.out.2.2.2 rfl (by decide) (.slice Av l.length cv) l.length css.flatten rfl hcs2 ⟨w4.heap.size, 0, none⟩ 1 1 [.string (bA d.2)] rfl rfl (news_one N5.out) (one_one _) (by have := HLn.out; unfold maxLen; omega) (by have := HLn.out; omega) T5.out.lt ?_
            intro v6 w6 ho hg hv
            have O6 : Hid (OwnL kStr 9 1 (g3 + 1) w6 v6 (l ++ [(bA d.2)])) := Lib.hid (OwnL.more hcs1 hcs3 ho hg hv rfl rfl)
            have S6 := Lib.hid (S5.out.grown hg (fun g e => Nat.lt_of_lt_of_le HG.out.1 (Nat.le_of_succ_le (O5.out.lt g e).1)))
            have T6 : Hid (Blk w6 g3 67 #[.string NM, (.slice Av l.length cv)]) := Lib.hid ((hg.block g3 T5.out.lt (fun e => absurd (O5.out.lt g3 e.symm).1 (Nat.not_succ_le_self _))).trans T5.out)
            obtain ⟨A6, n6, c6, rfl⟩ : ∃ A n c, v6 = .slice A n c := by
              obtain ⟨A, c, e⟩ := ps_row_slice ho
              exact ⟨A, _, c, e⟩
            clear ho hg hv hcs1 hcs2 hcs3
            refine hK.out _ _ trivial (fun h9 => ?_)
            clear hK K'
            try simp only [Act.put, List.setIfInBounds_toArray, List.set_cons_zero, List.set_cons_succ]
            refine wpAnyH_take (i := 6) (oi := ⟨some 24, _, _, _, _, _⟩) (v := ?_) rfl (by kernel_rfl) (by kernel_rfl) (by kernel_rfl) (fun _ _ _ h => h) (Or.inl ⟨by rfl, ?_⟩) h9 ?_
            rotate_left
            · intro w hSw
              try dsimp only at hSw
              go_simp
              try with_reducible rfl
            try simp only [Act.put, List.setIfInBounds_toArray, List.set_cons_zero, List.set_cons_succ]
            refine wpAnyH_ready (rs := [7]) (by kernel_rfl) (by simp) ?_
            refine (AllReadyH.cons (o := ⟨none, _, _, _, _, _⟩) rfl (fun K' hK => ?_) AllReadyH.nil)
            have t0 := T6.out.cell 1
            have t1 := T6.out.frozen 1
            have t2 := T6.out.lt
            simp at t0
            go_simp
            refine hK.out _ _ trivial (fun h10 => ?_)
            clear hK K'
            try simp only [Act.put, List.setIfInBounds_toArray, List.set_cons_zero, List.set_cons_succ]
            clear t0 t1 t2
            refine wpAnyH_done (by kernel_rfl) ?_ _
            obtain ⟨w7, hw7⟩ : ∃ x, x = w6.setCell ⟨g3, 1, none⟩ (.slice A6 n6 c6) := ⟨_, rfl⟩
            have S7 : Hid (BX B b len M k w 67 #[.string ⟨#[]⟩, .slice none 0 0] d.1 w7) := Lib.hid (by rw [hw7]; exact S6.out.far (p := ⟨g3, 1, none⟩) HG.out.1 _)
            have T7 : Hid (Blk w7 g3 67 #[.string NM, (.slice A6 n6 c6)]) := Lib.hid (by rw [hw7]; exact T6.out.set_ 1 _)
            have O7 : Hid (OwnL kStr 9 1 (g3 + 1) w7 (.slice A6 n6 c6) (l ++ [(bA d.2)])) := Lib.hid (by rw [hw7]; exact O6.out.set_ ⟨g3, 1, none⟩ _ (Nat.lt_succ_self _))
            rw [← hw7]
            clear hw7 S6 T6 O6
            go_wp2_with fail
            go_roundg d.1.ts.length
            case rel => exact ⟨d.1, l ++ [bA d.2], .slice A6 n6 c6, g, Nat.le_refl _, by have := HDl.out; have := HG1.out; omega, by have := HDl.out; have := HLn.out; simp only [List.length_append, List.length_cons, List.length_nil]; omega, S7.out, T7.out, O7.out, HRw2.out⟩
            case measure => have := HDl.out; have := HGk.out; omega
          · go_simp
            refine (HNd.out _ SD.out.par).mono ?_
            rintro e w4 ⟨rfl, hp, hd⟩
            have S4 := Lib.hid (SD.out.step hp hd)
            have T4 := Lib.hid (hd.blk TD.out (Nat.ne_of_gt HG.out.2))
            have O4 := Lib.hid (OD.out.pd hd (Nat.lt_succ_of_lt HG.out.2))
            clear hp hd
            go_wp2_with fail
            refine hK.out _ _ trivial (fun h2 => ?_)
            clear hK K'
            try simp only [Act.put, List.setIfInBounds_toArray, List.set_cons_zero, List.set_cons_succ]
            refine wpAnyH_ready (rs := [1, 4]) (by kernel_rfl) (by simp) ?_
            refine (AllReadyH.cons (o := ⟨some 19, _, _, _, _, _⟩) rfl (fun K' hK => ?_) (AllReadyH.cons (o := ⟨some 22, _, _, _, _, _⟩) rfl (fun K' hK => ?_) AllReadyH.nil))
            · have tf : w4.cell? ⟨g3, 1, none⟩ = some (.slice Av l.length cv) := T4.out.cell 1
              go_simp
              refine hK.out _ _ trivial (fun h3 => ?_)
              clear hK K'
              try simp only [Act.put, List.setIfInBounds_toArray, List.set_cons_zero, List.set_cons_succ]
              clear tf
              refine wpAnyH_ready (rs := [4]) (by kernel_rfl) (by simp) ?_
              refine (AllReadyH.cons (o := ⟨some 22, _, _, _, _, _⟩) rfl (fun K' hK => ?_) AllReadyH.nil)
              have B5 : Hid (Below w4.heap.size w4 (w4.alloc (.cells #[.string (bA d.2)] 9))) := Lib.hid ((Below.refl _ _).alloc (Nat.le_refl _) _)
              have S5 := Lib.hid (S4.out.below B5.out)
              have T5 := Lib.hid (T4.out.below B5.out T4.out.lt)
              have O5 := Lib.hid (O4.out.below B5.out)
              have N5 := Lib.hid (Blk.new w4 9 #[.string (bA d.2)])
              go_simp
              refine hK.out _ _ trivial (fun h4 => ?_)
              clear hK K'
              try simp only [Act.put, List.setIfInBounds_toArray, List.set_cons_zero, List.set_cons_succ]
              refine wpAnyH_ready (rs := [5]) (by kernel_rfl) (by simp) ?_
              refine (AllReadyH.cons (o := ⟨some 23, _, _, _, _, _⟩) rfl (fun K' hK => ?_) AllReadyH.nil)
              obtain ⟨css, hcs1, hcs2, hcs3⟩ := O5.out
              rw [if_pos (by rfl)]
              refine wp_append_at (.tmp 19) (.tmp 22) 65 rfl (g3 + 1) 9 i0 (.string ⟨#[]⟩) 1 16 Tryz.underlying65 HI0.out.1 HI0.out.2.1 HI0.out.2.2.1 HI0.out.2.2.2 rfl (by decide) (.slice Av l.length cv) l.length css.flatten rfl hcs2 ⟨w4.heap.size, 0, none⟩ 1 1 [.string (bA d.2)] rfl rfl (news_one N5.out) (one_one _) (by have := HLn.out; unfold maxLen; omega) (by have := HLn.out; omega) T5.out.lt ?_
              intro v6 w6 ho hg hv
              have O6 : Hid (OwnL kStr 9 1 (g3 + 1) w6 v6 (l ++ [(bA d.2)])) := Lib.hid (OwnL.more hcs1 hcs3 ho hg hv rfl rfl)
              have S6 := Lib.hid (S5.out.grown hg (fun g e => Nat.lt_of_lt_of_le HG.out.1 (Nat.le_of_succ_le (O5.out.lt g e).1)))
              have T6 : Hid (Blk w6 g3 67 #[.string NM, (.slice Av l.length cv)]) := Lib.hid ((hg.block g3 T5.out.lt (fun e => absurd (O5.out.lt g3 e.symm).1 (Nat.not_succ_le_self _))).trans T5.out)
              obtain ⟨A6, n6, c6, rfl⟩ : ∃ A n c, v6 = .slice A n c := by
                obtain ⟨A, c, e⟩ := ps_row_slice ho
                exact ⟨A, _, c, e⟩
              clear ho hg hv hcs1 hcs2 hcs3
              refine hK.out _ _ trivial (fun h9 => ?_)
              clear hK K'
              try simp only [Act.put, List.setIfInBounds_toArray, List.set_cons_zero, List.set_cons_succ]
              refine wpAnyH_take (i := 6) (oi := ⟨some 24, _, _, _, _, _⟩) (v := ?_) rfl (by kernel_rfl) (by kernel_rfl) (by kernel_rfl) (fun _ _ _ h => h) (Or.inl ⟨by rfl, ?_⟩) h9 ?_
              rotate_left
              · intro w hSw
                try dsimp only at hSw
                go_simp
                try with_reducible rfl
              try simp only [Act.put, List.setIfInBounds_toArray, List.set_cons_zero, List.set_cons_succ]
              refine wpAnyH_ready (rs := [7]) (by kernel_rfl) (by simp) ?_
              refine (AllReadyH.cons (o := ⟨none, _, _, _, _, _⟩) rfl (fun K' hK => ?_) AllReadyH.nil)
              have t0 := T6.out.cell 1
              have t1 := T6.out.frozen 1
              have t2 := T6.out.lt
              simp at t0
              go_simp
              refine hK.out _ _ trivial (fun h10 => ?_)
              clear hK K'
              try simp only [Act.put, List.setIfInBounds_toArray, List.set_cons_zero, List.set_cons_succ]
              clear t0 t1 t2
              refine wpAnyH_done (by kernel_rfl) ?_ _
              obtain ⟨w7, hw7⟩ : ∃ x, x = w6.setCell ⟨g3, 1, none⟩ (.slice A6 n6 c6) := ⟨_, rfl⟩
              have S7 : Hid (BX B b len M k w 67 #[.string ⟨#[]⟩, .slice none 0 0] d.1 w7) := Lib.hid (by rw [hw7]; exact S6.out.far (p := ⟨g3, 1, none⟩) HG.out.1 _)
              have T7 : Hid (Blk w7 g3 67 #[.string NM, (.slice A6 n6 c6)]) := Lib.hid (by rw [hw7]; exact T6.out.set_ 1 _)
              have O7 : Hid (OwnL kStr 9 1 (g3 + 1) w7 (.slice A6 n6 c6) (l ++ [(bA d.2)])) := Lib.hid (by rw [hw7]; exact O6.out.set_ ⟨g3, 1, none⟩ _ (Nat.lt_succ_self _))
              rw [← hw7]
              clear hw7 S6 T6 O6
              go_wp2_with fail
              go_roundg d.1.ts.length
              case rel => exact ⟨d.1, l ++ [bA d.2], .slice A6 n6 c6, g, Nat.le_refl _, by have := HDl.out; have := HG1.out; omega, by have := HDl.out; have := HLn.out; simp only [List.length_append, List.length_cons, List.length_nil]; omega, S7.out, T7.out, O7.out, HRw2.out⟩
              case measure => have := HDl.out; have := HGk.out; omega
            · have B5 : Hid (Below w4.heap.size w4 (w4.alloc (.cells #[.string (bA d.2)] 9))) := Lib.hid ((Below.refl _ _).alloc (Nat.le_refl _) _)
              have S5 := Lib.hid (S4.out.below B5.out)
              have T5 := Lib.hid (T4.out.below B5.out T4.out.lt)
              have O5 := Lib.hid (O4.out.below B5.out)
              have N5 := Lib.hid (Blk.new w4 9 #[.string (bA d.2)])
              go_simp
              refine hK.out _ _ trivial (fun h3 => ?_)
              clear hK K'
              try simp only [Act.put, List.setIfInBounds_toArray, List.set_cons_zero, List.set_cons_succ]
              refine wpAnyH_ready (rs := [1]) (by kernel_rfl) (by simp) ?_
              refine (AllReadyH.cons (o := ⟨some 19, _, _, _, _, _⟩) rfl (fun K' hK => ?_) AllReadyH.nil)
              have tf : (w4.alloc (.cells #[.string (bA d.2)] 9)).cell? ⟨g3, 1, none⟩ = some (.slice Av l.length cv) := T5.out.cell 1
              go_simp
              refine hK.out _ _ trivial (fun h4 => ?_)
              clear hK K'
              try simp only [Act.put, List.setIfInBounds_toArray, List.set_cons_zero, List.set_cons_succ]
              clear tf
              refine wpAnyH_ready (rs := [5]) (by kernel_rfl) (by simp) ?_
              refine (AllReadyH.cons (o := ⟨some 23, _, _, _, _, _⟩) rfl (fun K' hK => ?_) AllReadyH.nil)
              obtain ⟨css, hcs1, hcs2, hcs3⟩ := O5.out
              rw [if_pos (by rfl)]
              refine wp_append_at (.tmp 19) (.tmp 22) 65 rfl (g3 + 1) 9 i0 (.string ⟨#[]⟩) 1 16 Tryz.underlying65 HI0.out.1 HI0.out.2.1 HI0.out.2.2.1 HI0.out.2.2.2 rfl (by decide) (.slice Av l.length cv) l.length css.flatten rfl hcs2 ⟨w4.heap.size, 0, none⟩ 1 1 [.string (bA d.2)] rfl rfl (news_one N5.out) (one_one _) (by have := HLn.out; unfold maxLen; omega) (by have := HLn.out; omega) T5.out.lt ?_
              intro v6 w6 ho hg hv
              have O6 : Hid (OwnL kStr 9 1 (g3 + 1) w6 v6 (l ++ [(bA d.2)])) := Lib.hid (OwnL.more hcs1 hcs3 ho hg hv rfl rfl)
              have S6 := Lib.hid (S5.out.grown hg (fun g e => Nat.lt_of_lt_of_le HG.out.1 (Nat.le_of_succ_le (O5.out.lt g e).1)))
              have T6 : Hid (Blk w6 g3 67 #[.string NM, (.slice Av l.length cv)]) := Lib.hid ((hg.block g3 T5.out.lt (fun e => absurd (O5.out.lt g3 e.symm).1 (Nat.not_succ_le_self _))).trans T5.out)
              obtain ⟨A6, n6, c6, rfl⟩ : ∃ A n c, v6 = .slice A n c := by
                obtain ⟨A, c, e⟩ := ps_row_slice ho
                exact ⟨A, _, c, e⟩
              clear ho hg hv hcs1 hcs2 hcs3
              refine hK.out _ _ trivial (fun h9 => ?_)
              clear hK K'
              try simp only [Act.put, List.setIfInBounds_toArray, List.set_cons_zero, List.set_cons_succ]
              refine wpAnyH_take (i := 6) (oi := ⟨some 24, _, _, _, _, _⟩) (v := ?_) rfl (by kernel_rfl) (by kernel_rfl) (by kernel_rfl) (fun _ _ _ h => h) (Or.inl ⟨by rfl, ?_⟩) h9 ?_
              rotate_left
              · intro w hSw
                try dsimp only at hSw
                go_simp
                try with_reducible rfl
              try simp only [Act.put, List.setIfInBounds_toArray, List.set_cons_zero, List.set_cons_succ]
              refine wpAnyH_ready (rs := [7]) (by kernel_rfl) (by simp) ?_
              refine (AllReadyH.cons (o := ⟨none, _, _, _, _, _⟩) rfl (fun K' hK => ?_) AllReadyH.nil)
              have t0 := T6.out.cell 1
              have t1 := T6.out.frozen 1
              have t2 := T6.out.lt
              simp at t0
              go_simp
              refine hK.out _ _ trivial (fun h10 => ?_)
              clear hK K'
              try simp only [Act.put, List.setIfInBounds_toArray, List.set_cons_zero, List.set_cons_succ]
              clear t0 t1 t2
              refine wpAnyH_done (by kernel_rfl) ?_ _
              obtain ⟨w7, hw7⟩ : ∃ x, x = w6.setCell ⟨g3, 1, none⟩ (.slice A6 n6 c6) := ⟨_, rfl⟩
              have S7 : Hid (BX B b len M k w 67 #[.string ⟨#[]⟩, .slice none 0 0] d.1 w7) := Lib.hid (by rw [hw7]; exact S6.out.far (p := ⟨g3, 1, none⟩) HG.out.1 _)
              have T7 : Hid (Blk w7 g3 67 #[.string NM, (.slice A6 n6 c6)]) := Lib.hid (by rw [hw7]; exact T6.out.set_ 1 _)
              have O7 : Hid (OwnL kStr 9 1 (g3 + 1) w7 (.slice A6 n6 c6) (l ++ [(bA d.2)])) := Lib.hid (by rw [hw7]; exact O6.out.set_ ⟨g3, 1, none⟩ _ (Nat.lt_succ_self _))
              rw [← hw7]
              clear hw7 S6 T6 O6
              go_wp2_with fail
              go_roundg d.1.ts.length
              case rel => exact ⟨d.1, l ++ [bA d.2], .slice A6 n6 c6, g, Nat.le_refl _, by have := HDl.out; have := HG1.out; omega, by have := HDl.out; have := HLn.out; simp only [List.length_append, List.length_cons, List.length_nil]; omega, S7.out, T7.out, O7.out, HRw2.out⟩
              case measure => have := HDl.out; have := HGk.out; omega
end
end Go.Proofs.YteaongdlbleehaaGreatDoor
