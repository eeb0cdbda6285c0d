/- The parse layer: what is declared. -/
import Derived.Test.YteaongdlbleehaaDoorPsRows
namespace Go.Proofs.YteaongdlbleehaaDoor
open Go.RowKit
section
variable {B b len k n : Nat} {M : Value} {s : PS} {w : World}
/-- Tokens that were there. -/
theorem sub_fail (e : Nat) {s : PS} (h : TokB s.ts) : TokB (failF len e s).ts := by
  unfold failF; split
  · intro t ht; cases ht
  · exact h
theorem sub_take {s : PS} (h : TokB s.ts) : TokB (takeF s).ts := fun t ht => h t (List.mem_of_mem_tail ht)
theorem sub_name {s : PS} (h : TokB s.ts) : TokB (nameF len s).1.ts := by
  unfold nameF; split
  · exact sub_take h
  · exact sub_fail _ h
theorem sub_exp (t : Bs) {s : PS} (h : TokB s.ts) : TokB (expF len t s).ts := by
  unfold expF; split
  · exact sub_take h
  · exact sub_fail _ h
theorem sub_type {s : PS} (h : TokB s.ts) : TokB (typeP len s).1.ts := by
  unfold typeP; split
  · exact sub_take h
  · exact sub_name h
theorem var_in {s : PS} (hl : len ≤ 4096) (h : TokB s.ts) : In64 (varP len s).2.2.2 := by
  unfold varP
  simp only
  split
  · unfold sizeP
    split
    · have := (nxt_b hl (sub_take (sub_type (len := len) (sub_exp (len := len) [58] (sub_name (len := len) h))))).2.1
      unfold In64
      simp only
      omega
    · exact in64_zero
  · exact in64_zero
/-- What declare tells. -/
def RetD (B b len : Nat) (M : Value) (w : World) (g3 : Nat) (r : PS × Pg) (e : Ending) (w' : World) : Prop :=
  e = .returned (.tuple #[]) ∧ ∃ n vE vV vP, PB B b len M w g3 n r.2 vE vV vP r.1 w' ∧ Blk w' g3 39 #[vE, vV, vP, .slice none 0 0]
set_option maxHeartbeats 6400000 in
set_option maxRecDepth 100000 in
theorem declare_any {g3 : Nat} {q : Pg} {vE vV vP : Value} {W : World} (h : PB B b len M w g3 n q vE vV vP s W) (hT : Blk W g3 39 #[vE, vV, vP, .slice none 0 0]) (hl : q.enums.length ≤ 4097 ∧ q.vars.length ≤ 4097 ∧ q.procs.length ≤ 4097) :
    Calls Tryd.prog 39 #[.pointer (some ⟨b, 0, none⟩), .pointer (some ⟨g3, 0, none⟩)] W (RetD B b len M w g3 (declP len s q)) := by
  obtain ⟨A1, c1, rfl⟩ : ∃ A c, vE = .slice A q.enums.length c := by
    obtain ⟨A, c, e, -⟩ := h.en.row
    exact ⟨_, _, e⟩
  obtain ⟨A2, c2, rfl⟩ : ∃ A c, vV = .slice A q.vars.length c := by
    obtain ⟨A, c, e, -⟩ := h.va.row
    exact ⟨_, _, e⟩
  obtain ⟨A3, c3, rfl⟩ : ∃ A c, vP = .slice A q.procs.length c := by
    obtain ⟨A, c, e, -⟩ := h.pr.row
    exact ⟨_, _, e⟩
  have S0 := Lib.hid h
  have T0 := Lib.hid hT
  have HL := Lib.hid hl
  have HTb := Lib.hid (And.intro h.bx.par.hl h.bx.par.tb)
  obtain ⟨bE, hbE⟩ : ∃ q, q = isF len tEnum s := ⟨_, rfl⟩
  have HS1 : Hid (∀ w, Par B b len M 0 0 s w → Calls Tryd.prog 56 #[.pointer (some ⟨b, 0, none⟩), .string ⟨#[101, 110, 117, 109]⟩] w (RetP B b len M 0 0 (.bool bE) (if bE then takeF s else s) w)) := Lib.hid fun w h => by
    have := skip_any tEnum h
    unfold skipF at this
    rw [← hbE] at this
    exact this
  obtain ⟨bV, hbV⟩ : ∃ q, q = isF len tVar s := ⟨_, rfl⟩
  have HS2 : Hid (∀ w, Par B b len M 0 0 s w → Calls Tryd.prog 56 #[.pointer (some ⟨b, 0, none⟩), .string ⟨#[118, 97, 114]⟩] w (RetP B b len M 0 0 (.bool bV) (if bV then takeF s else s) w)) := Lib.hid fun w h => by
    have := skip_any tVar h
    unfold skipF at this
    rw [← hbV] at this
    exact this
  obtain ⟨bP, hbP⟩ : ∃ q, q = isF len tProc s := ⟨_, rfl⟩
  have HS3 : Hid (∀ w, Par B b len M 0 0 s w → Calls Tryd.prog 56 #[.pointer (some ⟨b, 0, none⟩), .string ⟨#[112, 114, 111, 99]⟩] w (RetP B b len M 0 0 (.bool bP) (if bP then takeF s else s) w)) := Lib.hid fun w h => by
    have := skip_any tProc h
    unfold skipF at this
    rw [← hbP] at this
    exact this
  have HFl : Hid (∀ w, Par B b len M 0 0 s w → Calls Tryd.prog 15 #[.pointer (some ⟨b, 0, none⟩), .int .i64 130] w (RetP B b len M 0 0 (.tuple #[]) (failF len 130 s) w)) := Lib.hid fun w h => fail_p h
  have HDe : Hid (declP len s q = if bE then ((enumP len (takeF s)).1, ⟨q.enums ++ [(enumP len (takeF s)).2], q.vars, q.procs, q.main⟩) else if bV then ((varP len (takeF s)).1, ⟨q.enums, q.vars ++ [(varP len (takeF s)).2], q.procs, q.main⟩) else if bP then ((procP len (takeF s)).1, ⟨q.enums, q.vars, q.procs ++ [(procP len (takeF s)).2], q.main⟩) else (failF len 130 s, q)) := Lib.hid (by rw [hbE, hbV, hbP]; rfl)
  clear h hT hl hbE hbV hbP
  cases bE
  · cases bV
    · cases bP
      · have HRes : Hid (declP len s q = (failF len 130 s, q)) := Lib.hid (by rw [HDe.out]; rfl)
        go_enter Tryd.func39, Tryd.ntmps39
        go_upto_region 3 with (go_at_call 56; have HY := HS1.out _ S0.out.bx.par; (with_reducible refine HY.mono ?_); clear HY; rintro e w1 ⟨rfl, hp, hd⟩; have S1 := Lib.hid (S0.out.step hp hd); have T1 := Lib.hid (hd.blk T0.out (Nat.ne_of_gt S0.out.lo.2)); clear hp hd)
        go_upto_region 5 with (go_at_call 56; have HY := HS2.out _ S1.out.bx.par; (with_reducible refine HY.mono ?_); clear HY; rintro e w2 ⟨rfl, hp, hd⟩; have S2 := Lib.hid (S1.out.step hp hd); have T2 := Lib.hid (hd.blk T1.out (Nat.ne_of_gt S1.out.lo.2)); clear hp hd)
        go_upto_region 0 with (go_at_call 56; have HY := HS3.out _ S2.out.bx.par; (with_reducible refine HY.mono ?_); clear HY; rintro e w3 ⟨rfl, hp, hd⟩; have S3 := Lib.hid (S2.out.step hp hd); have T3 := Lib.hid (hd.blk T2.out (Nat.ne_of_gt S2.out.lo.2)); clear hp hd)
        go_wp2_with (go_at_call 15; have HY := HFl.out _ S3.out.bx.par; (with_reducible refine HY.mono ?_); clear HY; rintro e w4 ⟨rfl, hp, hd⟩; have S4 := Lib.hid (S3.out.step hp hd); have T4 := Lib.hid (hd.blk T3.out (Nat.ne_of_gt S3.out.lo.2)); clear hp hd)
        go_end0
        exact ⟨rfl, n, _, _, _, by rw [HRes.out]; exact S4.out, T4.out⟩
      · obtain ⟨a, ha⟩ : ∃ q, q = nameF len (takeF s) := ⟨_, rfl⟩
        have HNm : Hid (∀ w, Par B b len M 0 0 (takeF s) w → Calls Tryd.prog 59 #[.pointer (some ⟨b, 0, none⟩)] w (RetP B b len M 0 0 (.string (bA a.2)) a.1 w)) := Lib.hid fun w h => by rw [ha]; exact name_any h
        obtain ⟨r, hr⟩ : ∃ q, q = blkE len a.1 := ⟨_, rfl⟩
        have HBk : Hid (∀ w, Par B b len M 0 0 a.1 w → Calls Tryd.prog 41 #[.pointer (some ⟨b, 0, none⟩)] w (RetB B b len M 0 r w)) := Lib.hid fun w h => by
          rw [hr]
          exact block_any 18 0 rfl _ _ h ⟨by omega, fun _ => by omega⟩
        obtain ⟨a1, ha1⟩ : ∃ q, q = bA a.2 := ⟨_, rfl⟩
        have HRes : Hid (declP len s q = (r.1, ⟨q.enums, q.vars, q.procs ++ [(a1, r.2)], q.main⟩)) := Lib.hid (by rw [HDe.out, hr, ha1, ha]; rfl)
        rw [← ha1] at HNm
        clear ha hr ha1
        go_enter Tryd.func39, Tryd.ntmps39
        go_upto_region 3 with (go_at_call 56; have HY := HS1.out _ S0.out.bx.par; (with_reducible refine HY.mono ?_); clear HY; rintro e w1 ⟨rfl, hp, hd⟩; have S1 := Lib.hid (S0.out.step hp hd); have T1 := Lib.hid (hd.blk T0.out (Nat.ne_of_gt S0.out.lo.2)); clear hp hd)
        go_upto_region 5 with (go_at_call 56; have HY := HS2.out _ S1.out.bx.par; (with_reducible refine HY.mono ?_); clear HY; rintro e w2 ⟨rfl, hp, hd⟩; have S2 := Lib.hid (S1.out.step hp hd); have T2 := Lib.hid (hd.blk T1.out (Nat.ne_of_gt S1.out.lo.2)); clear hp hd)
        go_upto_region 6 with (go_at_call 56; have HY := HS3.out _ S2.out.bx.par; (with_reducible refine HY.mono ?_); clear HY; rintro e w3 ⟨rfl, hp, hd⟩; have S3 := Lib.hid (S2.out.step hp hd); have T3 := Lib.hid (hd.blk T2.out (Nat.ne_of_gt S2.out.lo.2)); clear hp hd)
        have SD : Hid (PB B b len M w g3 n q (.slice A1 q.enums.length c1) (.slice A2 q.vars.length c2) (.slice A3 q.procs.length c3) (takeF s) w3.drew) := Lib.hid (S3.out.below (Below.refl _ _).drew)
        have TD : Hid (Blk w3.drew g3 39 #[(.slice A1 q.enums.length c1), (.slice A2 q.vars.length c2), (.slice A3 q.procs.length c3), .slice none 0 0]) := Lib.hid T3.out
        obtain ⟨i0, hi0, hz0, hz1, hz2⟩ := info_parts prfo
        have HI0 := Lib.hid (And.intro hi0 (And.intro hz0 (And.intro hz1 hz2)))
        clear hi0 hz0 hz1 hz2
        refine wp_region_held_drew (S := fun _ => True) (by kernel_rfl) trivial (fun k0 => ?_)
        refine wpAnyH_take (i := 0) (oi := ⟨some 37, _, _, _, _, _⟩) (v := ?_) rfl (by kernel_rfl) (by kernel_rfl) (by kernel_rfl) (fun _ _ _ h => h) (Or.inl ⟨by rfl, ?_⟩) k0 ?_
        rotate_left
        · intro w hSw
          try dsimp only at hSw
          go_simp
          try with_reducible rfl
        try simp only [Act.put, List.setIfInBounds_toArray, List.set_cons_zero, List.set_cons_succ]
        refine wpAnyH_take (i := 1) (oi := ⟨some 38, _, _, _, _, _⟩) (v := ?_) rfl (by kernel_rfl) (by kernel_rfl) (by kernel_rfl) (fun _ _ _ h => h) (Or.inl ⟨by rfl, ?_⟩) k0 ?_
        rotate_left
        · intro w hSw
          try dsimp only at hSw
          go_simp
          try with_reducible rfl
        try simp only [Act.put, List.setIfInBounds_toArray, List.set_cons_zero, List.set_cons_succ]
        refine wpAnyH_take (i := 2) (oi := ⟨some 39, _, _, _, _, _⟩) (v := ?_) rfl (by kernel_rfl) (by kernel_rfl) (by kernel_rfl) (fun _ _ _ h => h) (Or.inl ⟨by rfl, ?_⟩) k0 ?_
        rotate_left
        · intro w hSw
          try dsimp only at hSw
          go_simp
          try with_reducible rfl
        try simp only [Act.put, List.setIfInBounds_toArray, List.set_cons_zero, List.set_cons_succ]
        refine wpAnyH_take (i := 3) (oi := ⟨some 40, _, _, _, _, _⟩) (v := ?_) rfl (by kernel_rfl) (by kernel_rfl) (by kernel_rfl) (fun _ _ _ h => h) (Or.inl ⟨by rfl, ?_⟩) k0 ?_
        rotate_left
        · intro w hSw
          try dsimp only at hSw
          go_simp
          try with_reducible rfl
        try simp only [Act.put, List.setIfInBounds_toArray, List.set_cons_zero, List.set_cons_succ]
        refine wpAnyH_take (i := 5) (oi := ⟨some 42, _, _, _, _, _⟩) (v := ?_) rfl (by kernel_rfl) (by kernel_rfl) (by kernel_rfl) (fun _ _ _ h => h) (Or.inl ⟨by rfl, ?_⟩) k0 ?_
        rotate_left
        · intro w hSw
          try dsimp only at hSw
          go_simp
          try with_reducible rfl
        try simp only [Act.put, List.setIfInBounds_toArray, List.set_cons_zero, List.set_cons_succ]
        refine wpAnyH_take (i := 7) (oi := ⟨some 44, _, _, _, _, _⟩) (v := ?_) rfl (by kernel_rfl) (by kernel_rfl) (by kernel_rfl) (fun _ _ _ h => h) (Or.inl ⟨by rfl, ?_⟩) k0 ?_
        rotate_left
        · intro w hSw
          try dsimp only at hSw
          go_simp
          try with_reducible rfl
        try simp only [Act.put, List.setIfInBounds_toArray, List.set_cons_zero, List.set_cons_succ]
        refine wpAnyH_ready (rs := [4, 6]) (by kernel_rfl) (by simp) ?_
        refine (AllReadyH.cons (o := ⟨some 41, _, _, _, _, _⟩) rfl (fun K' hK => ?_) (AllReadyH.cons (o := ⟨some 43, _, _, _, _, _⟩) rfl (fun K' hK => ?_) AllReadyH.nil))
        · have tf : w3.drew.cell? ⟨g3, 2, none⟩ = some (.slice A3 q.procs.length c3) := TD.out.cell 2
          go_simp
          refine hK.out _ _ trivial (fun h1 => ?_)
          clear hK K'
          try simp only [Act.put, List.setIfInBounds_toArray, List.set_cons_zero, List.set_cons_succ]
          clear tf
          refine wpAnyH_ready (rs := [6]) (by kernel_rfl) (by simp) ?_
          refine (AllReadyH.cons (o := ⟨some 43, _, _, _, _, _⟩) rfl (fun K' hK => ?_) AllReadyH.nil)
          go_simp
          refine (HNm.out _ SD.out.bx.par).mono ?_
          rintro e wn ⟨rfl, hp, hd⟩
          have Sn := Lib.hid (SD.out.step hp hd)
          have Tn := Lib.hid (hd.blk TD.out (Nat.ne_of_gt SD.out.lo.2))
          have Hn := Lib.hid hd
          clear hp hd
          go_wp2_with fail
          refine hK.out _ _ trivial (fun h2 => ?_)
          clear hK K'
          try simp only [Act.put, List.setIfInBounds_toArray, List.set_cons_zero, List.set_cons_succ]
          refine wpAnyH_ready (rs := [8]) (by kernel_rfl) (by simp) ?_
          refine (AllReadyH.cons (o := ⟨some 45, _, _, _, _, _⟩) rfl (fun K' hK => ?_) AllReadyH.nil)
          go_simp
          refine (HBk.out _ Sn.out.bx.par).mono ?_
          rintro e w4 ⟨nf, AL, mL, cL, rfl, hp, hd, hr⟩
          have R4 := Lib.hid (hr.wide (P' := fun q => w3.drew.heap.size ≤ q ∧ q < w4.heap.size) (fun q hq => ⟨Nat.le_trans Hn.out.size hq.1, hq.2⟩))
          have S4 := Lib.hid ((Sn.out.step hp hd).up (Nat.le_add_right n nf))
          have T4 := Lib.hid (hd.blk Tn.out (Nat.ne_of_gt SD.out.lo.2))
          clear hp hd hr
          go_wp2_with fail
          refine hK.out _ _ trivial (fun h3 => ?_)
          clear hK K'
          try simp only [Act.put, List.setIfInBounds_toArray, List.set_cons_zero, List.set_cons_succ]
          refine wpAnyH_take (i := 9) (oi := ⟨some 46, _, _, _, _, _⟩) (v := ?_) rfl (by kernel_rfl) (by kernel_rfl) (by kernel_rfl) (fun _ _ _ h => h) (Or.inl ⟨by rfl, ?_⟩) h3 ?_
          rotate_left
          · intro w hSw
            try dsimp only at hSw
            go_simp
            try with_reducible rfl
          try simp only [Act.put, List.setIfInBounds_toArray, List.set_cons_zero, List.set_cons_succ]
          refine wpAnyH_ready (rs := [10]) (by kernel_rfl) (by simp) ?_
          refine (AllReadyH.cons (o := ⟨some 47, _, _, _, _, _⟩) rfl (fun K' hK => ?_) AllReadyH.nil)
          have B5 : Hid (Below w4.heap.size w4 (w4.alloc (.cells #[.string a1, .slice AL mL cL] 71))) := Lib.hid ((Below.refl _ _).alloc (Nat.le_refl _) _)
          have S5 := Lib.hid (S4.out.below B5.out)
          have T5 := Lib.hid (T4.out.below B5.out T4.out.lt)
          have N5 := Lib.hid (Blk.new w4 71 #[.string a1, .slice AL mL cL])
          go_simp
          refine hK.out _ _ trivial (fun h4 => ?_)
          clear hK K'
          try simp only [Act.put, List.setIfInBounds_toArray, List.set_cons_zero, List.set_cons_succ]
          refine wpAnyH_ready (rs := [11]) (by kernel_rfl) (by simp) ?_
          refine (AllReadyH.cons (o := ⟨some 48, _, _, _, _, _⟩) rfl (fun K' hK => ?_) AllReadyH.nil)
          obtain ⟨css, hcs1, hcs2, hcs3⟩ := S5.out.pr
          rw [if_pos (by rfl)]
          refine wp_append_at (.tmp 41) (.tmp 47) 36 rfl (g3 + 1) 71 i0 (.agg #[.string ⟨#[]⟩, .slice none 0 0]) 2 40 Tryd.underlying36 HI0.out.1 HI0.out.2.1 HI0.out.2.2.1 HI0.out.2.2.2 rfl (by decide) (.slice A3 q.procs.length c3) q.procs.length css.flatten rfl hcs2 ⟨w4.heap.size, 0, none⟩ 1 1 [.string a1, .slice AL mL cL] rfl rfl (news_two N5.out) (one_two _ _ _ _) (by have := HL.out; unfold maxLen; omega) (by have := HL.out; omega) T5.out.lt ?_
          intro v6 w6 ho hg hv
          have T6 : Hid (Blk w6 g3 39 #[(.slice A1 q.enums.length c1), (.slice A2 q.vars.length c2), (.slice A3 q.procs.length c3), .slice none 0 0]) := Lib.hid ((hg.block g3 T5.out.lt (fun e => absurd (S5.out.pr.lt g3 e.symm).1 (Nat.not_succ_le_self _))).trans T5.out)
          have S6 := Lib.hid (S5.out.moreP (x := (a1, r.2)) hcs1 hcs3 ho hg hv rfl (⟨_, rfl, ((R4.out.kept (fun x hx => B5.out.block x hx.2)).wide (fun x hx => ⟨⟨Nat.le_trans TD.out.lt hx.1, Nat.lt_of_lt_of_le hx.2 B5.out.size, fun e => absurd (SD.out.pr.lt _ e).2 (Nat.not_lt.2 hx.1)⟩, fun e => by
              rcases e with e | e
              · exact absurd (SD.out.en.lt _ e).2 (Nat.not_lt.2 hx.1)
              · exact absurd (SD.out.va.lt _ e).2 (Nat.not_lt.2 hx.1)⟩)).le (Nat.le_add_left nf n)⟩))
          obtain ⟨A6, n6, c6, rfl⟩ : ∃ A n c, v6 = .slice A n c := by
            obtain ⟨A, c, e⟩ := ps_row_slice ho
            exact ⟨A, _, c, e⟩
          clear ho hg hv hcs1 hcs2 hcs3
          refine hK.out _ _ trivial (fun h9 => ?_)
          clear hK K'
          try simp only [Act.put, List.setIfInBounds_toArray, List.set_cons_zero, List.set_cons_succ]
          refine wpAnyH_take (i := 12) (oi := ⟨some 49, _, _, _, _, _⟩) (v := ?_) rfl (by kernel_rfl) (by kernel_rfl) (by kernel_rfl) (fun _ _ _ h => h) (Or.inl ⟨by rfl, ?_⟩) h9 ?_
          rotate_left
          · intro w hSw
            try dsimp only at hSw
            go_simp
            try with_reducible rfl
          try simp only [Act.put, List.setIfInBounds_toArray, List.set_cons_zero, List.set_cons_succ]
          refine wpAnyH_take (i := 13) (oi := ⟨some 50, _, _, _, _, _⟩) (v := ?_) rfl (by kernel_rfl) (by kernel_rfl) (by kernel_rfl) (fun _ _ _ h => h) (Or.inl ⟨by rfl, ?_⟩) h9 ?_
          rotate_left
          · intro w hSw
            try dsimp only at hSw
            go_simp
            try with_reducible rfl
          try simp only [Act.put, List.setIfInBounds_toArray, List.set_cons_zero, List.set_cons_succ]
          refine wpAnyH_ready (rs := [14]) (by kernel_rfl) (by simp) ?_
          refine (AllReadyH.cons (o := ⟨none, _, _, _, _, _⟩) rfl (fun K' hK => ?_) AllReadyH.nil)
          have t0 := T6.out.cell 2
          have t1 := T6.out.frozen 2
          have t2 := T6.out.lt
          simp at t0
          go_simp
          refine hK.out _ _ trivial (fun h10 => ?_)
          clear hK K'
          try simp only [Act.put, List.setIfInBounds_toArray, List.set_cons_zero, List.set_cons_succ]
          clear t0 t1 t2
          refine wpAnyH_done (by kernel_rfl) ?_ _
          have S7 := Lib.hid (S6.out.set_ 2 (.slice A6 n6 c6))
          have T7 := Lib.hid (T6.out.set_ 2 (.slice A6 n6 c6))
          go_wp2_with fail
          go_end0
          exact ⟨rfl, _, _, _, _, by rw [HRes.out]; exact S7.out, T7.out⟩
        · go_simp
          refine (HNm.out _ SD.out.bx.par).mono ?_
          rintro e wn ⟨rfl, hp, hd⟩
          have Sn := Lib.hid (SD.out.step hp hd)
          have Tn := Lib.hid (hd.blk TD.out (Nat.ne_of_gt SD.out.lo.2))
          have Hn := Lib.hid hd
          clear hp hd
          go_wp2_with fail
          refine hK.out _ _ trivial (fun h2 => ?_)
          clear hK K'
          try simp only [Act.put, List.setIfInBounds_toArray, List.set_cons_zero, List.set_cons_succ]
          refine wpAnyH_ready (rs := [4, 8]) (by kernel_rfl) (by simp) ?_
          refine (AllReadyH.cons (o := ⟨some 41, _, _, _, _, _⟩) rfl (fun K' hK => ?_) (AllReadyH.cons (o := ⟨some 45, _, _, _, _, _⟩) rfl (fun K' hK => ?_) AllReadyH.nil))
          · have tf : wn.cell? ⟨g3, 2, none⟩ = some (.slice A3 q.procs.length c3) := Tn.out.cell 2
            go_simp
            refine hK.out _ _ trivial (fun h3 => ?_)
            clear hK K'
            try simp only [Act.put, List.setIfInBounds_toArray, List.set_cons_zero, List.set_cons_succ]
            clear tf
            refine wpAnyH_ready (rs := [8]) (by kernel_rfl) (by simp) ?_
            refine (AllReadyH.cons (o := ⟨some 45, _, _, _, _, _⟩) rfl (fun K' hK => ?_) AllReadyH.nil)
            go_simp
            refine (HBk.out _ Sn.out.bx.par).mono ?_
            rintro e w4 ⟨nf, AL, mL, cL, rfl, hp, hd, hr⟩
            have R4 := Lib.hid (hr.wide (P' := fun q => w3.drew.heap.size ≤ q ∧ q < w4.heap.size) (fun q hq => ⟨Nat.le_trans Hn.out.size hq.1, hq.2⟩))
            have S4 := Lib.hid ((Sn.out.step hp hd).up (Nat.le_add_right n nf))
            have T4 := Lib.hid (hd.blk Tn.out (Nat.ne_of_gt SD.out.lo.2))
            clear hp hd hr
            go_wp2_with fail
            refine hK.out _ _ trivial (fun h4 => ?_)
            clear hK K'
            try simp only [Act.put, List.setIfInBounds_toArray, List.set_cons_zero, List.set_cons_succ]
            refine wpAnyH_take (i := 9) (oi := ⟨some 46, _, _, _, _, _⟩) (v := ?_) rfl (by kernel_rfl) (by kernel_rfl) (by kernel_rfl) (fun _ _ _ h => h) (Or.inl ⟨by rfl, ?_⟩) h4 ?_
            rotate_left
            · intro w hSw
              try dsimp only at hSw
              go_simp
              try with_reducible rfl
            try simp only [Act.put, List.setIfInBounds_toArray, List.set_cons_zero, List.set_cons_succ]
            refine wpAnyH_ready (rs := [10]) (by kernel_rfl) (by simp) ?_
            refine (AllReadyH.cons (o := ⟨some 47, _, _, _, _, _⟩) rfl (fun K' hK => ?_) AllReadyH.nil)
            have B5 : Hid (Below w4.heap.size w4 (w4.alloc (.cells #[.string a1, .slice AL mL cL] 71))) := Lib.hid ((Below.refl _ _).alloc (Nat.le_refl _) _)
            have S5 := Lib.hid (S4.out.below B5.out)
            have T5 := Lib.hid (T4.out.below B5.out T4.out.lt)
            have N5 := Lib.hid (Blk.new w4 71 #[.string a1, .slice AL mL cL])
            go_simp
            refine hK.out _ _ trivial (fun h5 => ?_)
            clear hK K'
            try simp only [Act.put, List.setIfInBounds_toArray, List.set_cons_zero, List.set_cons_succ]
            refine wpAnyH_ready (rs := [11]) (by kernel_rfl) (by simp) ?_
            refine (AllReadyH.cons (o := ⟨some 48, _, _, _, _, _⟩) rfl (fun K' hK => ?_) AllReadyH.nil)
            obtain ⟨css, hcs1, hcs2, hcs3⟩ := S5.out.pr
            rw [if_pos (by rfl)]
            refine wp_append_at (.tmp 41) (.tmp 47) 36 rfl (g3 + 1) 71 i0 (.agg #[.string ⟨#[]⟩, .slice none 0 0]) 2 40 Tryd.underlying36 HI0.out.1 HI0.out.2.1 HI0.out.2.2.1 HI0.out.2.2.2 rfl (by decide) (.slice A3 q.procs.length c3) q.procs.length css.flatten rfl hcs2 ⟨w4.heap.size, 0, none⟩ 1 1 [.string a1, .slice AL mL cL] rfl rfl (news_two N5.out) (one_two _ _ _ _) (by have := HL.out; unfold maxLen; omega) (by have := HL.out; omega) T5.out.lt ?_
            intro v6 w6 ho hg hv
            have T6 : Hid (Blk w6 g3 39 #[(.slice A1 q.enums.length c1), (.slice A2 q.vars.length c2), (.slice A3 q.procs.length c3), .slice none 0 0]) := Lib.hid ((hg.block g3 T5.out.lt (fun e => absurd (S5.out.pr.lt g3 e.symm).1 (Nat.not_succ_le_self _))).trans T5.out)
            have S6 := Lib.hid (S5.out.moreP (x := (a1, r.2)) hcs1 hcs3 ho hg hv rfl (⟨_, rfl, ((R4.out.kept (fun x hx => B5.out.block x hx.2)).wide (fun x hx => ⟨⟨Nat.le_trans TD.out.lt hx.1, Nat.lt_of_lt_of_le hx.2 B5.out.size, fun e => absurd (SD.out.pr.lt _ e).2 (Nat.not_lt.2 hx.1)⟩, fun e => by
                rcases e with e | e
                · exact absurd (SD.out.en.lt _ e).2 (Nat.not_lt.2 hx.1)
                · exact absurd (SD.out.va.lt _ e).2 (Nat.not_lt.2 hx.1)⟩)).le (Nat.le_add_left nf n)⟩))
            obtain ⟨A6, n6, c6, rfl⟩ : ∃ A n c, v6 = .slice A n c := by
              obtain ⟨A, c, e⟩ := ps_row_slice ho
              exact ⟨A, _, c, e⟩
            clear ho hg hv hcs1 hcs2 hcs3
            refine hK.out _ _ trivial (fun h9 => ?_)
            clear hK K'
            try simp only [Act.put, List.setIfInBounds_toArray, List.set_cons_zero, List.set_cons_succ]
            refine wpAnyH_take (i := 12) (oi := ⟨some 49, _, _, _, _, _⟩) (v := ?_) rfl (by kernel_rfl) (by kernel_rfl) (by kernel_rfl) (fun _ _ _ h => h) (Or.inl ⟨by rfl, ?_⟩) h9 ?_
            rotate_left
            · intro w hSw
              try dsimp only at hSw
              go_simp
              try with_reducible rfl
            try simp only [Act.put, List.setIfInBounds_toArray, List.set_cons_zero, List.set_cons_succ]
            refine wpAnyH_take (i := 13) (oi := ⟨some 50, _, _, _, _, _⟩) (v := ?_) rfl (by kernel_rfl) (by kernel_rfl) (by kernel_rfl) (fun _ _ _ h => h) (Or.inl ⟨by rfl, ?_⟩) h9 ?_
            rotate_left
            · intro w hSw
              try dsimp only at hSw
              go_simp
              try with_reducible rfl
            try simp only [Act.put, List.setIfInBounds_toArray, List.set_cons_zero, List.set_cons_succ]
            refine wpAnyH_ready (rs := [14]) (by kernel_rfl) (by simp) ?_
            refine (AllReadyH.cons (o := ⟨none, _, _, _, _, _⟩) rfl (fun K' hK => ?_) AllReadyH.nil)
            have t0 := T6.out.cell 2
            have t1 := T6.out.frozen 2
            have t2 := T6.out.lt
            simp at t0
            go_simp
            refine hK.out _ _ trivial (fun h10 => ?_)
            clear hK K'
            try simp only [Act.put, List.setIfInBounds_toArray, List.set_cons_zero, List.set_cons_succ]
            clear t0 t1 t2
            refine wpAnyH_done (by kernel_rfl) ?_ _
            have S7 := Lib.hid (S6.out.set_ 2 (.slice A6 n6 c6))
            have T7 := Lib.hid (T6.out.set_ 2 (.slice A6 n6 c6))
            go_wp2_with fail
            go_end0
            exact ⟨rfl, _, _, _, _, by rw [HRes.out]; exact S7.out, T7.out⟩
          · go_simp
            refine (HBk.out _ Sn.out.bx.par).mono ?_
            rintro e w4 ⟨nf, AL, mL, cL, rfl, hp, hd, hr⟩
            have R4 := Lib.hid (hr.wide (P' := fun q => w3.drew.heap.size ≤ q ∧ q < w4.heap.size) (fun q hq => ⟨Nat.le_trans Hn.out.size hq.1, hq.2⟩))
            have S4 := Lib.hid ((Sn.out.step hp hd).up (Nat.le_add_right n nf))
            have T4 := Lib.hid (hd.blk Tn.out (Nat.ne_of_gt SD.out.lo.2))
            clear hp hd hr
            go_wp2_with fail
            refine hK.out _ _ trivial (fun h3 => ?_)
            clear hK K'
            try simp only [Act.put, List.setIfInBounds_toArray, List.set_cons_zero, List.set_cons_succ]
            refine wpAnyH_take (i := 9) (oi := ⟨some 46, _, _, _, _, _⟩) (v := ?_) rfl (by kernel_rfl) (by kernel_rfl) (by kernel_rfl) (fun _ _ _ h => h) (Or.inl ⟨by rfl, ?_⟩) h3 ?_
            rotate_left
            · intro w hSw
              try dsimp only at hSw
              go_simp
              try with_reducible rfl
            try simp only [Act.put, List.setIfInBounds_toArray, List.set_cons_zero, List.set_cons_succ]
            refine wpAnyH_ready (rs := [4, 10]) (by kernel_rfl) (by simp) ?_
            refine (AllReadyH.cons (o := ⟨some 41, _, _, _, _, _⟩) rfl (fun K' hK => ?_) (AllReadyH.cons (o := ⟨some 47, _, _, _, _, _⟩) rfl (fun K' hK => ?_) AllReadyH.nil))
            · have tf : w4.cell? ⟨g3, 2, none⟩ = some (.slice A3 q.procs.length c3) := T4.out.cell 2
              go_simp
              refine hK.out _ _ trivial (fun h4 => ?_)
              clear hK K'
              try simp only [Act.put, List.setIfInBounds_toArray, List.set_cons_zero, List.set_cons_succ]
              clear tf
              refine wpAnyH_ready (rs := [10]) (by kernel_rfl) (by simp) ?_
              refine (AllReadyH.cons (o := ⟨some 47, _, _, _, _, _⟩) rfl (fun K' hK => ?_) AllReadyH.nil)
              have B5 : Hid (Below w4.heap.size w4 (w4.alloc (.cells #[.string a1, .slice AL mL cL] 71))) := Lib.hid ((Below.refl _ _).alloc (Nat.le_refl _) _)
              have S5 := Lib.hid (S4.out.below B5.out)
              have T5 := Lib.hid (T4.out.below B5.out T4.out.lt)
              have N5 := Lib.hid (Blk.new w4 71 #[.string a1, .slice AL mL cL])
              go_simp
              refine hK.out _ _ trivial (fun h5 => ?_)
              clear hK K'
              try simp only [Act.put, List.setIfInBounds_toArray, List.set_cons_zero, List.set_cons_succ]
              refine wpAnyH_ready (rs := [11]) (by kernel_rfl) (by simp) ?_
              refine (AllReadyH.cons (o := ⟨some 48, _, _, _, _, _⟩) rfl (fun K' hK => ?_) AllReadyH.nil)
              obtain ⟨css, hcs1, hcs2, hcs3⟩ := S5.out.pr
              rw [if_pos (by rfl)]
              refine wp_append_at (.tmp 41) (.tmp 47) 36 rfl (g3 + 1) 71 i0 (.agg #[.string ⟨#[]⟩, .slice none 0 0]) 2 40 Tryd.underlying36 HI0.out.1 HI0.out.2.1 HI0.out.2.2.1 HI0.out.2.2.2 rfl (by decide) (.slice A3 q.procs.length c3) q.procs.length css.flatten rfl hcs2 ⟨w4.heap.size, 0, none⟩ 1 1 [.string a1, .slice AL mL cL] rfl rfl (news_two N5.out) (one_two _ _ _ _) (by have := HL.out; unfold maxLen; omega) (by have := HL.out; omega) T5.out.lt ?_
              intro v6 w6 ho hg hv
              have T6 : Hid (Blk w6 g3 39 #[(.slice A1 q.enums.length c1), (.slice A2 q.vars.length c2), (.slice A3 q.procs.length c3), .slice none 0 0]) := Lib.hid ((hg.block g3 T5.out.lt (fun e => absurd (S5.out.pr.lt g3 e.symm).1 (Nat.not_succ_le_self _))).trans T5.out)
              have S6 := Lib.hid (S5.out.moreP (x := (a1, r.2)) hcs1 hcs3 ho hg hv rfl (⟨_, rfl, ((R4.out.kept (fun x hx => B5.out.block x hx.2)).wide (fun x hx => ⟨⟨Nat.le_trans TD.out.lt hx.1, Nat.lt_of_lt_of_le hx.2 B5.out.size, fun e => absurd (SD.out.pr.lt _ e).2 (Nat.not_lt.2 hx.1)⟩, fun e => by
                  rcases e with e | e
                  · exact absurd (SD.out.en.lt _ e).2 (Nat.not_lt.2 hx.1)
                  · exact absurd (SD.out.va.lt _ e).2 (Nat.not_lt.2 hx.1)⟩)).le (Nat.le_add_left nf n)⟩))
              obtain ⟨A6, n6, c6, rfl⟩ : ∃ A n c, v6 = .slice A n c := by
                obtain ⟨A, c, e⟩ := ps_row_slice ho
                exact ⟨A, _, c, e⟩
              clear ho hg hv hcs1 hcs2 hcs3
              refine hK.out _ _ trivial (fun h9 => ?_)
              clear hK K'
              try simp only [Act.put, List.setIfInBounds_toArray, List.set_cons_zero, List.set_cons_succ]
              refine wpAnyH_take (i := 12) (oi := ⟨some 49, _, _, _, _, _⟩) (v := ?_) rfl (by kernel_rfl) (by kernel_rfl) (by kernel_rfl) (fun _ _ _ h => h) (Or.inl ⟨by rfl, ?_⟩) h9 ?_
              rotate_left
              · intro w hSw
                try dsimp only at hSw
                go_simp
                try with_reducible rfl
              try simp only [Act.put, List.setIfInBounds_toArray, List.set_cons_zero, List.set_cons_succ]
              refine wpAnyH_take (i := 13) (oi := ⟨some 50, _, _, _, _, _⟩) (v := ?_) rfl (by kernel_rfl) (by kernel_rfl) (by kernel_rfl) (fun _ _ _ h => h) (Or.inl ⟨by rfl, ?_⟩) h9 ?_
              rotate_left
              · intro w hSw
                try dsimp only at hSw
                go_simp
                try with_reducible rfl
              try simp only [Act.put, List.setIfInBounds_toArray, List.set_cons_zero, List.set_cons_succ]
              refine wpAnyH_ready (rs := [14]) (by kernel_rfl) (by simp) ?_
              refine (AllReadyH.cons (o := ⟨none, _, _, _, _, _⟩) rfl (fun K' hK => ?_) AllReadyH.nil)
              have t0 := T6.out.cell 2
              have t1 := T6.out.frozen 2
              have t2 := T6.out.lt
              simp at t0
              go_simp
              refine hK.out _ _ trivial (fun h10 => ?_)
              clear hK K'
              try simp only [Act.put, List.setIfInBounds_toArray, List.set_cons_zero, List.set_cons_succ]
              clear t0 t1 t2
              refine wpAnyH_done (by kernel_rfl) ?_ _
              have S7 := Lib.hid (S6.out.set_ 2 (.slice A6 n6 c6))
              have T7 := Lib.hid (T6.out.set_ 2 (.slice A6 n6 c6))
              go_wp2_with fail
              go_end0
              exact ⟨rfl, _, _, _, _, by rw [HRes.out]; exact S7.out, T7.out⟩
            · have B5 : Hid (Below w4.heap.size w4 (w4.alloc (.cells #[.string a1, .slice AL mL cL] 71))) := Lib.hid ((Below.refl _ _).alloc (Nat.le_refl _) _)
              have S5 := Lib.hid (S4.out.below B5.out)
              have T5 := Lib.hid (T4.out.below B5.out T4.out.lt)
              have N5 := Lib.hid (Blk.new w4 71 #[.string a1, .slice AL mL cL])
              go_simp
              refine hK.out _ _ trivial (fun h4 => ?_)
              clear hK K'
              try simp only [Act.put, List.setIfInBounds_toArray, List.set_cons_zero, List.set_cons_succ]
              refine wpAnyH_ready (rs := [4]) (by kernel_rfl) (by simp) ?_
              refine (AllReadyH.cons (o := ⟨some 41, _, _, _, _, _⟩) rfl (fun K' hK => ?_) AllReadyH.nil)
              have tf : (w4.alloc (.cells #[.string a1, .slice AL mL cL] 71)).cell? ⟨g3, 2, none⟩ = some (.slice A3 q.procs.length c3) := T5.out.cell 2
              go_simp
              refine hK.out _ _ trivial (fun h5 => ?_)
              clear hK K'
              try simp only [Act.put, List.setIfInBounds_toArray, List.set_cons_zero, List.set_cons_succ]
              clear tf
              refine wpAnyH_ready (rs := [11]) (by kernel_rfl) (by simp) ?_
              refine (AllReadyH.cons (o := ⟨some 48, _, _, _, _, _⟩) rfl (fun K' hK => ?_) AllReadyH.nil)
              obtain ⟨css, hcs1, hcs2, hcs3⟩ := S5.out.pr
              rw [if_pos (by rfl)]
              refine wp_append_at (.tmp 41) (.tmp 47) 36 rfl (g3 + 1) 71 i0 (.agg #[.string ⟨#[]⟩, .slice none 0 0]) 2 40 Tryd.underlying36 HI0.out.1 HI0.out.2.1 HI0.out.2.2.1 HI0.out.2.2.2 rfl (by decide) (.slice A3 q.procs.length c3) q.procs.length css.flatten rfl hcs2 ⟨w4.heap.size, 0, none⟩ 1 1 [.string a1, .slice AL mL cL] rfl rfl (news_two N5.out) (one_two _ _ _ _) (by have := HL.out; unfold maxLen; omega) (by have := HL.out; omega) T5.out.lt ?_
              intro v6 w6 ho hg hv
              have T6 : Hid (Blk w6 g3 39 #[(.slice A1 q.enums.length c1), (.slice A2 q.vars.length c2), (.slice A3 q.procs.length c3), .slice none 0 0]) := Lib.hid ((hg.block g3 T5.out.lt (fun e => absurd (S5.out.pr.lt g3 e.symm).1 (Nat.not_succ_le_self _))).trans T5.out)
              have S6 := Lib.hid (S5.out.moreP (x := (a1, r.2)) hcs1 hcs3 ho hg hv rfl (⟨_, rfl, ((R4.out.kept (fun x hx => B5.out.block x hx.2)).wide (fun x hx => ⟨⟨Nat.le_trans TD.out.lt hx.1, Nat.lt_of_lt_of_le hx.2 B5.out.size, fun e => absurd (SD.out.pr.lt _ e).2 (Nat.not_lt.2 hx.1)⟩, fun e => by
                  rcases e with e | e
                  · exact absurd (SD.out.en.lt _ e).2 (Nat.not_lt.2 hx.1)
                  · exact absurd (SD.out.va.lt _ e).2 (Nat.not_lt.2 hx.1)⟩)).le (Nat.le_add_left nf n)⟩))
              obtain ⟨A6, n6, c6, rfl⟩ : ∃ A n c, v6 = .slice A n c := by
                obtain ⟨A, c, e⟩ := ps_row_slice ho
                exact ⟨A, _, c, e⟩
              clear ho hg hv hcs1 hcs2 hcs3
              refine hK.out _ _ trivial (fun h9 => ?_)
              clear hK K'
              try simp only [Act.put, List.setIfInBounds_toArray, List.set_cons_zero, List.set_cons_succ]
              refine wpAnyH_take (i := 12) (oi := ⟨some 49, _, _, _, _, _⟩) (v := ?_) rfl (by kernel_rfl) (by kernel_rfl) (by kernel_rfl) (fun _ _ _ h => h) (Or.inl ⟨by rfl, ?_⟩) h9 ?_
              rotate_left
              · intro w hSw
                try dsimp only at hSw
                go_simp
                try with_reducible rfl
              try simp only [Act.put, List.setIfInBounds_toArray, List.set_cons_zero, List.set_cons_succ]
              refine wpAnyH_take (i := 13) (oi := ⟨some 50, _, _, _, _, _⟩) (v := ?_) rfl (by kernel_rfl) (by kernel_rfl) (by kernel_rfl) (fun _ _ _ h => h) (Or.inl ⟨by rfl, ?_⟩) h9 ?_
              rotate_left
              · intro w hSw
                try dsimp only at hSw
                go_simp
                try with_reducible rfl
              try simp only [Act.put, List.setIfInBounds_toArray, List.set_cons_zero, List.set_cons_succ]
              refine wpAnyH_ready (rs := [14]) (by kernel_rfl) (by simp) ?_
              refine (AllReadyH.cons (o := ⟨none, _, _, _, _, _⟩) rfl (fun K' hK => ?_) AllReadyH.nil)
              have t0 := T6.out.cell 2
              have t1 := T6.out.frozen 2
              have t2 := T6.out.lt
              simp at t0
              go_simp
              refine hK.out _ _ trivial (fun h10 => ?_)
              clear hK K'
              try simp only [Act.put, List.setIfInBounds_toArray, List.set_cons_zero, List.set_cons_succ]
              clear t0 t1 t2
              refine wpAnyH_done (by kernel_rfl) ?_ _
              have S7 := Lib.hid (S6.out.set_ 2 (.slice A6 n6 c6))
              have T7 := Lib.hid (T6.out.set_ 2 (.slice A6 n6 c6))
              go_wp2_with fail
              go_end0
              exact ⟨rfl, _, _, _, _, by rw [HRes.out]; exact S7.out, T7.out⟩
    · obtain ⟨r, hr⟩ : ∃ q, q = varP len (takeF s) := ⟨_, rfl⟩
      have HC : Hid (∀ w, Par B b len M 0 0 (takeF s) w → Calls Tryd.prog 65 #[.pointer (some ⟨b, 0, none⟩)] w (RetP B b len M 0 0 (.agg #[.string r.2.1, .string r.2.2.1, .int .i64 r.2.2.2]) r.1 w)) := Lib.hid fun w h => by rw [hr]; exact variable_any h
      have HIn : Hid (In64 r.2.2.2) := Lib.hid (by rw [hr]; exact var_in HTb.out.1 (sub_take HTb.out.2))
      have HRes : Hid (declP len s q = (r.1, ⟨q.enums, q.vars ++ [r.2], q.procs, q.main⟩)) := Lib.hid (by rw [HDe.out, hr]; rfl)
      clear hr
      go_enter Tryd.func39, Tryd.ntmps39
      go_upto_region 3 with (go_at_call 56; have HY := HS1.out _ S0.out.bx.par; (with_reducible refine HY.mono ?_); clear HY; rintro e w1 ⟨rfl, hp, hd⟩; have S1 := Lib.hid (S0.out.step hp hd); have T1 := Lib.hid (hd.blk T0.out (Nat.ne_of_gt S0.out.lo.2)); clear hp hd)
      go_upto_region 4 with (go_at_call 56; have HY := HS2.out _ S1.out.bx.par; (with_reducible refine HY.mono ?_); clear HY; rintro e w2 ⟨rfl, hp, hd⟩; have S2 := Lib.hid (S1.out.step hp hd); have T2 := Lib.hid (hd.blk T1.out (Nat.ne_of_gt S1.out.lo.2)); clear hp hd)
      have SD : Hid (PB B b len M w g3 n q (.slice A1 q.enums.length c1) (.slice A2 q.vars.length c2) (.slice A3 q.procs.length c3) (takeF s) w2.drew) := Lib.hid (S2.out.below (Below.refl _ _).drew)
      have TD : Hid (Blk w2.drew g3 39 #[(.slice A1 q.enums.length c1), (.slice A2 q.vars.length c2), (.slice A3 q.procs.length c3), .slice none 0 0]) := Lib.hid T2.out
      obtain ⟨i0, hi0, hz0, hz1, hz2⟩ := info_parts vafo
      have HI0 := Lib.hid (And.intro hi0 (And.intro hz0 (And.intro hz1 hz2)))
      clear hi0 hz0 hz1 hz2
      refine wp_region_held_drew (S := fun _ => True) (by kernel_rfl) trivial (fun k0 => ?_)
      refine wpAnyH_take (i := 0) (oi := ⟨some 23, _, _, _, _, _⟩) (v := ?_) rfl (by kernel_rfl) (by kernel_rfl) (by kernel_rfl) (fun _ _ _ h => h) (Or.inl ⟨by rfl, ?_⟩) k0 ?_
      rotate_left
      · intro w hSw
        try dsimp only at hSw
        go_simp
        try with_reducible rfl
      try simp only [Act.put, List.setIfInBounds_toArray, List.set_cons_zero, List.set_cons_succ]
      refine wpAnyH_take (i := 1) (oi := ⟨some 24, _, _, _, _, _⟩) (v := ?_) rfl (by kernel_rfl) (by kernel_rfl) (by kernel_rfl) (fun _ _ _ h => h) (Or.inl ⟨by rfl, ?_⟩) k0 ?_
      rotate_left
      · intro w hSw
        try dsimp only at hSw
        go_simp
        try with_reducible rfl
      try simp only [Act.put, List.setIfInBounds_toArray, List.set_cons_zero, List.set_cons_succ]
      refine wpAnyH_take (i := 2) (oi := ⟨some 25, _, _, _, _, _⟩) (v := ?_) rfl (by kernel_rfl) (by kernel_rfl) (by kernel_rfl) (fun _ _ _ h => h) (Or.inl ⟨by rfl, ?_⟩) k0 ?_
      rotate_left
      · intro w hSw
        try dsimp only at hSw
        go_simp
        try with_reducible rfl
      try simp only [Act.put, List.setIfInBounds_toArray, List.set_cons_zero, List.set_cons_succ]
      refine wpAnyH_take (i := 3) (oi := ⟨some 26, _, _, _, _, _⟩) (v := ?_) rfl (by kernel_rfl) (by kernel_rfl) (by kernel_rfl) (fun _ _ _ h => h) (Or.inl ⟨by rfl, ?_⟩) k0 ?_
      rotate_left
      · intro w hSw
        try dsimp only at hSw
        go_simp
        try with_reducible rfl
      try simp only [Act.put, List.setIfInBounds_toArray, List.set_cons_zero, List.set_cons_succ]
      refine wpAnyH_take (i := 5) (oi := ⟨some 28, _, _, _, _, _⟩) (v := ?_) rfl (by kernel_rfl) (by kernel_rfl) (by kernel_rfl) (fun _ _ _ h => h) (Or.inl ⟨by rfl, ?_⟩) k0 ?_
      rotate_left
      · intro w hSw
        try dsimp only at hSw
        go_simp
        try with_reducible rfl
      try simp only [Act.put, List.setIfInBounds_toArray, List.set_cons_zero, List.set_cons_succ]
      refine wpAnyH_ready (rs := [4, 6]) (by kernel_rfl) (by simp) ?_
      refine (AllReadyH.cons (o := ⟨some 27, _, _, _, _, _⟩) rfl (fun K' hK => ?_) (AllReadyH.cons (o := ⟨some 29, _, _, _, _, _⟩) rfl (fun K' hK => ?_) AllReadyH.nil))
      · have tf : w2.drew.cell? ⟨g3, 1, none⟩ = some (.slice A2 q.vars.length c2) := TD.out.cell 1
        go_simp
        refine hK.out _ _ trivial (fun h1 => ?_)
        clear hK K'
        try simp only [Act.put, List.setIfInBounds_toArray, List.set_cons_zero, List.set_cons_succ]
        clear tf
        refine wpAnyH_ready (rs := [6]) (by kernel_rfl) (by simp) ?_
        refine (AllReadyH.cons (o := ⟨some 29, _, _, _, _, _⟩) rfl (fun K' hK => ?_) AllReadyH.nil)
        go_simp
        refine (HC.out _ SD.out.bx.par).mono ?_
        rintro e w4 ⟨rfl, hp, hd⟩
        have S4 := Lib.hid (SD.out.step hp hd)
        have T4 := Lib.hid (hd.blk TD.out (Nat.ne_of_gt SD.out.lo.2))
        clear hp hd
        go_wp2_with fail
        refine hK.out _ _ trivial (fun h2 => ?_)
        clear hK K'
        try simp only [Act.put, List.setIfInBounds_toArray, List.set_cons_zero, List.set_cons_succ]
        refine wpAnyH_ready (rs := [7]) (by kernel_rfl) (by simp) ?_
        refine (AllReadyH.cons (o := ⟨some 30, _, _, _, _, _⟩) rfl (fun K' hK => ?_) AllReadyH.nil)
        have B5 : Hid (Below w4.heap.size w4 (w4.alloc (.cells #[.string r.2.1, .string r.2.2.1, .int .i64 r.2.2.2] 68))) := Lib.hid ((Below.refl _ _).alloc (Nat.le_refl _) _)
        have S5 := Lib.hid (S4.out.below B5.out)
        have T5 := Lib.hid (T4.out.below B5.out T4.out.lt)
        have N5 := Lib.hid (Blk.new w4 68 #[.string r.2.1, .string r.2.2.1, .int .i64 r.2.2.2])
        go_simp
        refine hK.out _ _ trivial (fun h3 => ?_)
        clear hK K'
        try simp only [Act.put, List.setIfInBounds_toArray, List.set_cons_zero, List.set_cons_succ]
        refine wpAnyH_ready (rs := [8]) (by kernel_rfl) (by simp) ?_
        refine (AllReadyH.cons (o := ⟨some 31, _, _, _, _, _⟩) rfl (fun K' hK => ?_) AllReadyH.nil)
        obtain ⟨css, hcs1, hcs2, hcs3⟩ := S5.out.va
        rw [if_pos (by rfl)]
        refine wp_append_at (.tmp 27) (.tmp 30) 35 rfl (g3 + 1) 68 i0 (.agg #[.string ⟨#[]⟩, .string ⟨#[]⟩, .int .i64 0]) 3 40 Tryd.underlying35 HI0.out.1 HI0.out.2.1 HI0.out.2.2.1 HI0.out.2.2.2 rfl (by decide) (.slice A2 q.vars.length c2) q.vars.length css.flatten rfl hcs2 ⟨w4.heap.size, 0, none⟩ 1 1 [.string r.2.1, .string r.2.2.1, .int .i64 r.2.2.2] rfl rfl (news_three N5.out) (one_three _ _ _) (by have := HL.out; unfold maxLen; omega) (by have := HL.out; omega) T5.out.lt ?_
        intro v6 w6 ho hg hv
        have T6 : Hid (Blk w6 g3 39 #[(.slice A1 q.enums.length c1), (.slice A2 q.vars.length c2), (.slice A3 q.procs.length c3), .slice none 0 0]) := Lib.hid ((hg.block g3 T5.out.lt (fun e => absurd (S5.out.va.lt g3 e.symm).1 (Nat.not_succ_le_self _))).trans T5.out)
        have S6 := Lib.hid (S5.out.moreV (x := r.2) hcs1 hcs3 ho hg hv rfl (⟨rfl, HIn.out⟩))
        obtain ⟨A6, n6, c6, rfl⟩ : ∃ A n c, v6 = .slice A n c := by
          obtain ⟨A, c, e⟩ := ps_row_slice ho
          exact ⟨A, _, c, e⟩
        clear ho hg hv hcs1 hcs2 hcs3
        refine hK.out _ _ trivial (fun h9 => ?_)
        clear hK K'
        try simp only [Act.put, List.setIfInBounds_toArray, List.set_cons_zero, List.set_cons_succ]
        refine wpAnyH_take (i := 9) (oi := ⟨some 32, _, _, _, _, _⟩) (v := ?_) rfl (by kernel_rfl) (by kernel_rfl) (by kernel_rfl) (fun _ _ _ h => h) (Or.inl ⟨by rfl, ?_⟩) h9 ?_
        rotate_left
        · intro w hSw
          try dsimp only at hSw
          go_simp
          try with_reducible rfl
        try simp only [Act.put, List.setIfInBounds_toArray, List.set_cons_zero, List.set_cons_succ]
        refine wpAnyH_take (i := 10) (oi := ⟨some 33, _, _, _, _, _⟩) (v := ?_) rfl (by kernel_rfl) (by kernel_rfl) (by kernel_rfl) (fun _ _ _ h => h) (Or.inl ⟨by rfl, ?_⟩) h9 ?_
        rotate_left
        · intro w hSw
          try dsimp only at hSw
          go_simp
          try with_reducible rfl
        try simp only [Act.put, List.setIfInBounds_toArray, List.set_cons_zero, List.set_cons_succ]
        refine wpAnyH_ready (rs := [11]) (by kernel_rfl) (by simp) ?_
        refine (AllReadyH.cons (o := ⟨none, _, _, _, _, _⟩) rfl (fun K' hK => ?_) AllReadyH.nil)
        have t0 := T6.out.cell 1
        have t1 := T6.out.frozen 1
        have t2 := T6.out.lt
        simp at t0
        go_simp
        refine hK.out _ _ trivial (fun h10 => ?_)
        clear hK K'
        try simp only [Act.put, List.setIfInBounds_toArray, List.set_cons_zero, List.set_cons_succ]
        clear t0 t1 t2
        refine wpAnyH_done (by kernel_rfl) ?_ _
        have S7 := Lib.hid (S6.out.set_ 1 (.slice A6 n6 c6))
        have T7 := Lib.hid (T6.out.set_ 1 (.slice A6 n6 c6))
        go_wp2_with fail
        go_end0
        exact ⟨rfl, _, _, _, _, by rw [HRes.out]; exact S7.out, T7.out⟩
      · go_simp
        refine (HC.out _ SD.out.bx.par).mono ?_
        rintro e w4 ⟨rfl, hp, hd⟩
        have S4 := Lib.hid (SD.out.step hp hd)
        have T4 := Lib.hid (hd.blk TD.out (Nat.ne_of_gt SD.out.lo.2))
        clear hp hd
        go_wp2_with fail
        refine hK.out _ _ trivial (fun h2 => ?_)
        clear hK K'
        try simp only [Act.put, List.setIfInBounds_toArray, List.set_cons_zero, List.set_cons_succ]
        refine wpAnyH_ready (rs := [4, 7]) (by kernel_rfl) (by simp) ?_
        refine (AllReadyH.cons (o := ⟨some 27, _, _, _, _, _⟩) rfl (fun K' hK => ?_) (AllReadyH.cons (o := ⟨some 30, _, _, _, _, _⟩) rfl (fun K' hK => ?_) AllReadyH.nil))
        · have tf : w4.cell? ⟨g3, 1, none⟩ = some (.slice A2 q.vars.length c2) := T4.out.cell 1
          go_simp
          refine hK.out _ _ trivial (fun h3 => ?_)
          clear hK K'
          try simp only [Act.put, List.setIfInBounds_toArray, List.set_cons_zero, List.set_cons_succ]
          clear tf
          refine wpAnyH_ready (rs := [7]) (by kernel_rfl) (by simp) ?_
          refine (AllReadyH.cons (o := ⟨some 30, _, _, _, _, _⟩) rfl (fun K' hK => ?_) AllReadyH.nil)
          have B5 : Hid (Below w4.heap.size w4 (w4.alloc (.cells #[.string r.2.1, .string r.2.2.1, .int .i64 r.2.2.2] 68))) := Lib.hid ((Below.refl _ _).alloc (Nat.le_refl _) _)
          have S5 := Lib.hid (S4.out.below B5.out)
          have T5 := Lib.hid (T4.out.below B5.out T4.out.lt)
          have N5 := Lib.hid (Blk.new w4 68 #[.string r.2.1, .string r.2.2.1, .int .i64 r.2.2.2])
          go_simp
          refine hK.out _ _ trivial (fun h4 => ?_)
          clear hK K'
          try simp only [Act.put, List.setIfInBounds_toArray, List.set_cons_zero, List.set_cons_succ]
          refine wpAnyH_ready (rs := [8]) (by kernel_rfl) (by simp) ?_
          refine (AllReadyH.cons (o := ⟨some 31, _, _, _, _, _⟩) rfl (fun K' hK => ?_) AllReadyH.nil)
          obtain ⟨css, hcs1, hcs2, hcs3⟩ := S5.out.va
          rw [if_pos (by rfl)]
          refine wp_append_at (.tmp 27) (.tmp 30) 35 rfl (g3 + 1) 68 i0 (.agg #[.string ⟨#[]⟩, .string ⟨#[]⟩, .int .i64 0]) 3 40 Tryd.underlying35 HI0.out.1 HI0.out.2.1 HI0.out.2.2.1 HI0.out.2.2.2 rfl (by decide) (.slice A2 q.vars.length c2) q.vars.length css.flatten rfl hcs2 ⟨w4.heap.size, 0, none⟩ 1 1 [.string r.2.1, .string r.2.2.1, .int .i64 r.2.2.2] rfl rfl (news_three N5.out) (one_three _ _ _) (by have := HL.out; unfold maxLen; omega) (by have := HL.out; omega) T5.out.lt ?_
          intro v6 w6 ho hg hv
          have T6 : Hid (Blk w6 g3 39 #[(.slice A1 q.enums.length c1), (.slice A2 q.vars.length c2), (.slice A3 q.procs.length c3), .slice none 0 0]) := Lib.hid ((hg.block g3 T5.out.lt (fun e => absurd (S5.out.va.lt g3 e.symm).1 (Nat.not_succ_le_self _))).trans T5.out)
          have S6 := Lib.hid (S5.out.moreV (x := r.2) hcs1 hcs3 ho hg hv rfl (⟨rfl, HIn.out⟩))
          obtain ⟨A6, n6, c6, rfl⟩ : ∃ A n c, v6 = .slice A n c := by
            obtain ⟨A, c, e⟩ := ps_row_slice ho
            exact ⟨A, _, c, e⟩
          clear ho hg hv hcs1 hcs2 hcs3
          refine hK.out _ _ trivial (fun h9 => ?_)
          clear hK K'
          try simp only [Act.put, List.setIfInBounds_toArray, List.set_cons_zero, List.set_cons_succ]
          refine wpAnyH_take (i := 9) (oi := ⟨some 32, _, _, _, _, _⟩) (v := ?_) rfl (by kernel_rfl) (by kernel_rfl) (by kernel_rfl) (fun _ _ _ h => h) (Or.inl ⟨by rfl, ?_⟩) h9 ?_
          rotate_left
          · intro w hSw
            try dsimp only at hSw
            go_simp
            try with_reducible rfl
          try simp only [Act.put, List.setIfInBounds_toArray, List.set_cons_zero, List.set_cons_succ]
          refine wpAnyH_take (i := 10) (oi := ⟨some 33, _, _, _, _, _⟩) (v := ?_) rfl (by kernel_rfl) (by kernel_rfl) (by kernel_rfl) (fun _ _ _ h => h) (Or.inl ⟨by rfl, ?_⟩) h9 ?_
          rotate_left
          · intro w hSw
            try dsimp only at hSw
            go_simp
            try with_reducible rfl
          try simp only [Act.put, List.setIfInBounds_toArray, List.set_cons_zero, List.set_cons_succ]
          refine wpAnyH_ready (rs := [11]) (by kernel_rfl) (by simp) ?_
          refine (AllReadyH.cons (o := ⟨none, _, _, _, _, _⟩) rfl (fun K' hK => ?_) AllReadyH.nil)
          have t0 := T6.out.cell 1
          have t1 := T6.out.frozen 1
          have t2 := T6.out.lt
          simp at t0
          go_simp
          refine hK.out _ _ trivial (fun h10 => ?_)
          clear hK K'
          try simp only [Act.put, List.setIfInBounds_toArray, List.set_cons_zero, List.set_cons_succ]
          clear t0 t1 t2
          refine wpAnyH_done (by kernel_rfl) ?_ _
          have S7 := Lib.hid (S6.out.set_ 1 (.slice A6 n6 c6))
          have T7 := Lib.hid (T6.out.set_ 1 (.slice A6 n6 c6))
          go_wp2_with fail
          go_end0
          exact ⟨rfl, _, _, _, _, by rw [HRes.out]; exact S7.out, T7.out⟩
        · have B5 : Hid (Below w4.heap.size w4 (w4.alloc (.cells #[.string r.2.1, .string r.2.2.1, .int .i64 r.2.2.2] 68))) := Lib.hid ((Below.refl _ _).alloc (Nat.le_refl _) _)
          have S5 := Lib.hid (S4.out.below B5.out)
          have T5 := Lib.hid (T4.out.below B5.out T4.out.lt)
          have N5 := Lib.hid (Blk.new w4 68 #[.string r.2.1, .string r.2.2.1, .int .i64 r.2.2.2])
          go_simp
          refine hK.out _ _ trivial (fun h3 => ?_)
          clear hK K'
          try simp only [Act.put, List.setIfInBounds_toArray, List.set_cons_zero, List.set_cons_succ]
          refine wpAnyH_ready (rs := [4]) (by kernel_rfl) (by simp) ?_
          refine (AllReadyH.cons (o := ⟨some 27, _, _, _, _, _⟩) rfl (fun K' hK => ?_) AllReadyH.nil)
          have tf : (w4.alloc (.cells #[.string r.2.1, .string r.2.2.1, .int .i64 r.2.2.2] 68)).cell? ⟨g3, 1, none⟩ = some (.slice A2 q.vars.length c2) := T5.out.cell 1
          go_simp
          refine hK.out _ _ trivial (fun h4 => ?_)
          clear hK K'
          try simp only [Act.put, List.setIfInBounds_toArray, List.set_cons_zero, List.set_cons_succ]
          clear tf
          refine wpAnyH_ready (rs := [8]) (by kernel_rfl) (by simp) ?_
          refine (AllReadyH.cons (o := ⟨some 31, _, _, _, _, _⟩) rfl (fun K' hK => ?_) AllReadyH.nil)
          obtain ⟨css, hcs1, hcs2, hcs3⟩ := S5.out.va
          rw [if_pos (by rfl)]
          refine wp_append_at (.tmp 27) (.tmp 30) 35 rfl (g3 + 1) 68 i0 (.agg #[.string ⟨#[]⟩, .string ⟨#[]⟩, .int .i64 0]) 3 40 Tryd.underlying35 HI0.out.1 HI0.out.2.1 HI0.out.2.2.1 HI0.out.2.2.2 rfl (by decide) (.slice A2 q.vars.length c2) q.vars.length css.flatten rfl hcs2 ⟨w4.heap.size, 0, none⟩ 1 1 [.string r.2.1, .string r.2.2.1, .int .i64 r.2.2.2] rfl rfl (news_three N5.out) (one_three _ _ _) (by have := HL.out; unfold maxLen; omega) (by have := HL.out; omega) T5.out.lt ?_
          intro v6 w6 ho hg hv
          have T6 : Hid (Blk w6 g3 39 #[(.slice A1 q.enums.length c1), (.slice A2 q.vars.length c2), (.slice A3 q.procs.length c3), .slice none 0 0]) := Lib.hid ((hg.block g3 T5.out.lt (fun e => absurd (S5.out.va.lt g3 e.symm).1 (Nat.not_succ_le_self _))).trans T5.out)
          have S6 := Lib.hid (S5.out.moreV (x := r.2) hcs1 hcs3 ho hg hv rfl (⟨rfl, HIn.out⟩))
          obtain ⟨A6, n6, c6, rfl⟩ : ∃ A n c, v6 = .slice A n c := by
            obtain ⟨A, c, e⟩ := ps_row_slice ho
            exact ⟨A, _, c, e⟩
          clear ho hg hv hcs1 hcs2 hcs3
          refine hK.out _ _ trivial (fun h9 => ?_)
          clear hK K'
          try simp only [Act.put, List.setIfInBounds_toArray, List.set_cons_zero, List.set_cons_succ]
          refine wpAnyH_take (i := 9) (oi := ⟨some 32, _, _, _, _, _⟩) (v := ?_) rfl (by kernel_rfl) (by kernel_rfl) (by kernel_rfl) (fun _ _ _ h => h) (Or.inl ⟨by rfl, ?_⟩) h9 ?_
          rotate_left
          · intro w hSw
            try dsimp only at hSw
            go_simp
            try with_reducible rfl
          try simp only [Act.put, List.setIfInBounds_toArray, List.set_cons_zero, List.set_cons_succ]
          refine wpAnyH_take (i := 10) (oi := ⟨some 33, _, _, _, _, _⟩) (v := ?_) rfl (by kernel_rfl) (by kernel_rfl) (by kernel_rfl) (fun _ _ _ h => h) (Or.inl ⟨by rfl, ?_⟩) h9 ?_
          rotate_left
          · intro w hSw
            try dsimp only at hSw
            go_simp
            try with_reducible rfl
          try simp only [Act.put, List.setIfInBounds_toArray, List.set_cons_zero, List.set_cons_succ]
          refine wpAnyH_ready (rs := [11]) (by kernel_rfl) (by simp) ?_
          refine (AllReadyH.cons (o := ⟨none, _, _, _, _, _⟩) rfl (fun K' hK => ?_) AllReadyH.nil)
          have t0 := T6.out.cell 1
          have t1 := T6.out.frozen 1
          have t2 := T6.out.lt
          simp at t0
          go_simp
          refine hK.out _ _ trivial (fun h10 => ?_)
          clear hK K'
          try simp only [Act.put, List.setIfInBounds_toArray, List.set_cons_zero, List.set_cons_succ]
          clear t0 t1 t2
          refine wpAnyH_done (by kernel_rfl) ?_ _
          have S7 := Lib.hid (S6.out.set_ 1 (.slice A6 n6 c6))
          have T7 := Lib.hid (T6.out.set_ 1 (.slice A6 n6 c6))
          go_wp2_with fail
          go_end0
          exact ⟨rfl, _, _, _, _, by rw [HRes.out]; exact S7.out, T7.out⟩
  · obtain ⟨r, hr⟩ : ∃ q, q = enumP len (takeF s) := ⟨_, rfl⟩
    have HC : Hid (∀ w, Par B b len M 0 0 (takeF s) w → Calls Tryd.prog 64 #[.pointer (some ⟨b, 0, none⟩)] w (RetEn B b len M 0 r w)) := Lib.hid fun w h => by rw [hr]; exact enum_any h
    have HRes : Hid (declP len s q = (r.1, ⟨q.enums ++ [r.2], q.vars, q.procs, q.main⟩)) := Lib.hid (by rw [HDe.out, hr]; rfl)
    clear hr
    go_enter Tryd.func39, Tryd.ntmps39
    go_upto_region 2 with (go_at_call 56; have HY := HS1.out _ S0.out.bx.par; (with_reducible refine HY.mono ?_); clear HY; rintro e w1 ⟨rfl, hp, hd⟩; have S1 := Lib.hid (S0.out.step hp hd); have T1 := Lib.hid (hd.blk T0.out (Nat.ne_of_gt S0.out.lo.2)); clear hp hd)
    have SD : Hid (PB B b len M w g3 n q (.slice A1 q.enums.length c1) (.slice A2 q.vars.length c2) (.slice A3 q.procs.length c3) (takeF s) w1.drew) := Lib.hid (S1.out.below (Below.refl _ _).drew)
    have TD : Hid (Blk w1.drew g3 39 #[(.slice A1 q.enums.length c1), (.slice A2 q.vars.length c2), (.slice A3 q.procs.length c3), .slice none 0 0]) := Lib.hid T1.out
    obtain ⟨i0, hi0, hz0, hz1, hz2⟩ := info_parts enfo
    have HI0 := Lib.hid (And.intro hi0 (And.intro hz0 (And.intro hz1 hz2)))
    clear hi0 hz0 hz1 hz2
    refine wp_region_held_drew (S := fun _ => True) (by kernel_rfl) trivial (fun k0 => ?_)
    refine wpAnyH_take (i := 0) (oi := ⟨some 9, _, _, _, _, _⟩) (v := ?_) rfl (by kernel_rfl) (by kernel_rfl) (by kernel_rfl) (fun _ _ _ h => h) (Or.inl ⟨by rfl, ?_⟩) k0 ?_
    rotate_left
    · intro w hSw
      try dsimp only at hSw
      go_simp
      try with_reducible rfl
    try simp only [Act.put, List.setIfInBounds_toArray, List.set_cons_zero, List.set_cons_succ]
    refine wpAnyH_take (i := 1) (oi := ⟨some 10, _, _, _, _, _⟩) (v := ?_) rfl (by kernel_rfl) (by kernel_rfl) (by kernel_rfl) (fun _ _ _ h => h) (Or.inl ⟨by rfl, ?_⟩) k0 ?_
    rotate_left
    · intro w hSw
      try dsimp only at hSw
      go_simp
      try with_reducible rfl
    try simp only [Act.put, List.setIfInBounds_toArray, List.set_cons_zero, List.set_cons_succ]
    refine wpAnyH_take (i := 2) (oi := ⟨some 11, _, _, _, _, _⟩) (v := ?_) rfl (by kernel_rfl) (by kernel_rfl) (by kernel_rfl) (fun _ _ _ h => h) (Or.inl ⟨by rfl, ?_⟩) k0 ?_
    rotate_left
    · intro w hSw
      try dsimp only at hSw
      go_simp
      try with_reducible rfl
    try simp only [Act.put, List.setIfInBounds_toArray, List.set_cons_zero, List.set_cons_succ]
    refine wpAnyH_take (i := 3) (oi := ⟨some 12, _, _, _, _, _⟩) (v := ?_) rfl (by kernel_rfl) (by kernel_rfl) (by kernel_rfl) (fun _ _ _ h => h) (Or.inl ⟨by rfl, ?_⟩) k0 ?_
    rotate_left
    · intro w hSw
      try dsimp only at hSw
      go_simp
      try with_reducible rfl
    try simp only [Act.put, List.setIfInBounds_toArray, List.set_cons_zero, List.set_cons_succ]
    refine wpAnyH_take (i := 5) (oi := ⟨some 14, _, _, _, _, _⟩) (v := ?_) rfl (by kernel_rfl) (by kernel_rfl) (by kernel_rfl) (fun _ _ _ h => h) (Or.inl ⟨by rfl, ?_⟩) k0 ?_
    rotate_left
    · intro w hSw
      try dsimp only at hSw
      go_simp
      try with_reducible rfl
    try simp only [Act.put, List.setIfInBounds_toArray, List.set_cons_zero, List.set_cons_succ]
    refine wpAnyH_ready (rs := [4, 6]) (by kernel_rfl) (by simp) ?_
    refine (AllReadyH.cons (o := ⟨some 13, _, _, _, _, _⟩) rfl (fun K' hK => ?_) (AllReadyH.cons (o := ⟨some 15, _, _, _, _, _⟩) rfl (fun K' hK => ?_) AllReadyH.nil))
    · have tf : w1.drew.cell? ⟨g3, 0, none⟩ = some (.slice A1 q.enums.length c1) := TD.out.cell 0
      go_simp
      refine hK.out _ _ trivial (fun h1 => ?_)
      clear hK K'
      try simp only [Act.put, List.setIfInBounds_toArray, List.set_cons_zero, List.set_cons_succ]
      clear tf
      refine wpAnyH_ready (rs := [6]) (by kernel_rfl) (by simp) ?_
      refine (AllReadyH.cons (o := ⟨some 15, _, _, _, _, _⟩) rfl (fun K' hK => ?_) AllReadyH.nil)
      go_simp
      refine (HC.out _ SD.out.bx.par).mono ?_
      rintro e w4 ⟨L, rfl, hp, hd, hr⟩
      obtain ⟨AL, mL, cL, rfl⟩ : ∃ A m c, L = .slice A m c := by
        obtain ⟨A, c, e, -⟩ := hr
        exact ⟨_, _, _, e⟩
      have R4 := Lib.hid hr
      have S4 := Lib.hid (SD.out.step hp hd)
      have T4 := Lib.hid (hd.blk TD.out (Nat.ne_of_gt SD.out.lo.2))
      clear hp hd hr
      go_wp2_with fail
      refine hK.out _ _ trivial (fun h2 => ?_)
      clear hK K'
      try simp only [Act.put, List.setIfInBounds_toArray, List.set_cons_zero, List.set_cons_succ]
      refine wpAnyH_ready (rs := [7]) (by kernel_rfl) (by simp) ?_
      refine (AllReadyH.cons (o := ⟨some 16, _, _, _, _, _⟩) rfl (fun K' hK => ?_) AllReadyH.nil)
      have B5 : Hid (Below w4.heap.size w4 (w4.alloc (.cells #[.string r.2.1, .slice AL mL cL] 64))) := Lib.hid ((Below.refl _ _).alloc (Nat.le_refl _) _)
      have S5 := Lib.hid (S4.out.below B5.out)
      have T5 := Lib.hid (T4.out.below B5.out T4.out.lt)
      have N5 := Lib.hid (Blk.new w4 64 #[.string r.2.1, .slice AL mL cL])
      go_simp
      refine hK.out _ _ trivial (fun h3 => ?_)
      clear hK K'
      try simp only [Act.put, List.setIfInBounds_toArray, List.set_cons_zero, List.set_cons_succ]
      refine wpAnyH_ready (rs := [8]) (by kernel_rfl) (by simp) ?_
      refine (AllReadyH.cons (o := ⟨some 17, _, _, _, _, _⟩) rfl (fun K' hK => ?_) AllReadyH.nil)
      obtain ⟨css, hcs1, hcs2, hcs3⟩ := S5.out.en
      rw [if_pos (by rfl)]
      refine wp_append_at (.tmp 13) (.tmp 16) 34 rfl (g3 + 1) 64 i0 (.agg #[.string ⟨#[]⟩, .slice none 0 0]) 2 40 Tryd.underlying34 HI0.out.1 HI0.out.2.1 HI0.out.2.2.1 HI0.out.2.2.2 rfl (by decide) (.slice A1 q.enums.length c1) q.enums.length css.flatten rfl hcs2 ⟨w4.heap.size, 0, none⟩ 1 1 [.string r.2.1, .slice AL mL cL] rfl rfl (news_two N5.out) (one_two _ _ _ _) (by have := HL.out; unfold maxLen; omega) (by have := HL.out; omega) T5.out.lt ?_
      intro v6 w6 ho hg hv
      have T6 : Hid (Blk w6 g3 39 #[(.slice A1 q.enums.length c1), (.slice A2 q.vars.length c2), (.slice A3 q.procs.length c3), .slice none 0 0]) := Lib.hid ((hg.block g3 T5.out.lt (fun e => absurd (S5.out.en.lt g3 e.symm).1 (Nat.not_succ_le_self _))).trans T5.out)
      have S6 := Lib.hid (S5.out.moreE (x := r.2) hcs1 hcs3 ho hg hv rfl (⟨_, rfl, (R4.out.kept (fun x hx => B5.out.block x hx.2)).wide (fun x hx => ⟨⟨Nat.le_trans TD.out.lt hx.1, Nat.lt_of_lt_of_le hx.2 B5.out.size, fun e => absurd (SD.out.en.lt _ e).2 (Nat.not_lt.2 hx.1)⟩, fun e => by
          rcases e with e | e
          · exact absurd (SD.out.va.lt _ e).2 (Nat.not_lt.2 hx.1)
          · exact absurd (SD.out.pr.lt _ e).2 (Nat.not_lt.2 hx.1)⟩)⟩))
      obtain ⟨A6, n6, c6, rfl⟩ : ∃ A n c, v6 = .slice A n c := by
        obtain ⟨A, c, e⟩ := ps_row_slice ho
        exact ⟨A, _, c, e⟩
      clear ho hg hv hcs1 hcs2 hcs3
      refine hK.out _ _ trivial (fun h9 => ?_)
      clear hK K'
      try simp only [Act.put, List.setIfInBounds_toArray, List.set_cons_zero, List.set_cons_succ]
      refine wpAnyH_take (i := 9) (oi := ⟨some 18, _, _, _, _, _⟩) (v := ?_) rfl (by kernel_rfl) (by kernel_rfl) (by kernel_rfl) (fun _ _ _ h => h) (Or.inl ⟨by rfl, ?_⟩) h9 ?_
      rotate_left
      · intro w hSw
        try dsimp only at hSw
        go_simp
        try with_reducible rfl
      try simp only [Act.put, List.setIfInBounds_toArray, List.set_cons_zero, List.set_cons_succ]
      refine wpAnyH_take (i := 10) (oi := ⟨some 19, _, _, _, _, _⟩) (v := ?_) rfl (by kernel_rfl) (by kernel_rfl) (by kernel_rfl) (fun _ _ _ h => h) (Or.inl ⟨by rfl, ?_⟩) h9 ?_
      rotate_left
      · intro w hSw
        try dsimp only at hSw
        go_simp
        try with_reducible rfl
      try simp only [Act.put, List.setIfInBounds_toArray, List.set_cons_zero, List.set_cons_succ]
      refine wpAnyH_ready (rs := [11]) (by kernel_rfl) (by simp) ?_
      refine (AllReadyH.cons (o := ⟨none, _, _, _, _, _⟩) rfl (fun K' hK => ?_) AllReadyH.nil)
      have t0 := T6.out.cell 0
      have t1 := T6.out.frozen 0
      have t2 := T6.out.lt
      simp at t0
      go_simp
      refine hK.out _ _ trivial (fun h10 => ?_)
      clear hK K'
      try simp only [Act.put, List.setIfInBounds_toArray, List.set_cons_zero, List.set_cons_succ]
      clear t0 t1 t2
      refine wpAnyH_done (by kernel_rfl) ?_ _
      have S7 := Lib.hid (S6.out.set_ 0 (.slice A6 n6 c6))
      have T7 := Lib.hid (T6.out.set_ 0 (.slice A6 n6 c6))
      go_wp2_with fail
      go_end0
      exact ⟨rfl, _, _, _, _, by rw [HRes.out]; exact S7.out, T7.out⟩
    · go_simp
      refine (HC.out _ SD.out.bx.par).mono ?_
      rintro e w4 ⟨L, rfl, hp, hd, hr⟩
      obtain ⟨AL, mL, cL, rfl⟩ : ∃ A m c, L = .slice A m c := by
        obtain ⟨A, c, e, -⟩ := hr
        exact ⟨_, _, _, e⟩
      have R4 := Lib.hid hr
      have S4 := Lib.hid (SD.out.step hp hd)
      have T4 := Lib.hid (hd.blk TD.out (Nat.ne_of_gt SD.out.lo.2))
      clear hp hd hr
      go_wp2_with fail
      refine hK.out _ _ trivial (fun h2 => ?_)
      clear hK K'
      try simp only [Act.put, List.setIfInBounds_toArray, List.set_cons_zero, List.set_cons_succ]
      refine wpAnyH_ready (rs := [4, 7]) (by kernel_rfl) (by simp) ?_
      refine (AllReadyH.cons (o := ⟨some 13, _, _, _, _, _⟩) rfl (fun K' hK => ?_) (AllReadyH.cons (o := ⟨some 16, _, _, _, _, _⟩) rfl (fun K' hK => ?_) AllReadyH.nil))
      · have tf : w4.cell? ⟨g3, 0, none⟩ = some (.slice A1 q.enums.length c1) := T4.out.cell 0
        go_simp
        refine hK.out _ _ trivial (fun h3 => ?_)
        clear hK K'
        try simp only [Act.put, List.setIfInBounds_toArray, List.set_cons_zero, List.set_cons_succ]
        clear tf
        refine wpAnyH_ready (rs := [7]) (by kernel_rfl) (by simp) ?_
        refine (AllReadyH.cons (o := ⟨some 16, _, _, _, _, _⟩) rfl (fun K' hK => ?_) AllReadyH.nil)
        have B5 : Hid (Below w4.heap.size w4 (w4.alloc (.cells #[.string r.2.1, .slice AL mL cL] 64))) := Lib.hid ((Below.refl _ _).alloc (Nat.le_refl _) _)
        have S5 := Lib.hid (S4.out.below B5.out)
        have T5 := Lib.hid (T4.out.below B5.out T4.out.lt)
        have N5 := Lib.hid (Blk.new w4 64 #[.string r.2.1, .slice AL mL cL])
        go_simp
        refine hK.out _ _ trivial (fun h4 => ?_)
        clear hK K'
        try simp only [Act.put, List.setIfInBounds_toArray, List.set_cons_zero, List.set_cons_succ]
        refine wpAnyH_ready (rs := [8]) (by kernel_rfl) (by simp) ?_
        refine (AllReadyH.cons (o := ⟨some 17, _, _, _, _, _⟩) rfl (fun K' hK => ?_) AllReadyH.nil)
        obtain ⟨css, hcs1, hcs2, hcs3⟩ := S5.out.en
        rw [if_pos (by rfl)]
        refine wp_append_at (.tmp 13) (.tmp 16) 34 rfl (g3 + 1) 64 i0 (.agg #[.string ⟨#[]⟩, .slice none 0 0]) 2 40 Tryd.underlying34 HI0.out.1 HI0.out.2.1 HI0.out.2.2.1 HI0.out.2.2.2 rfl (by decide) (.slice A1 q.enums.length c1) q.enums.length css.flatten rfl hcs2 ⟨w4.heap.size, 0, none⟩ 1 1 [.string r.2.1, .slice AL mL cL] rfl rfl (news_two N5.out) (one_two _ _ _ _) (by have := HL.out; unfold maxLen; omega) (by have := HL.out; omega) T5.out.lt ?_
        intro v6 w6 ho hg hv
        have T6 : Hid (Blk w6 g3 39 #[(.slice A1 q.enums.length c1), (.slice A2 q.vars.length c2), (.slice A3 q.procs.length c3), .slice none 0 0]) := Lib.hid ((hg.block g3 T5.out.lt (fun e => absurd (S5.out.en.lt g3 e.symm).1 (Nat.not_succ_le_self _))).trans T5.out)
        have S6 := Lib.hid (S5.out.moreE (x := r.2) hcs1 hcs3 ho hg hv rfl (⟨_, rfl, (R4.out.kept (fun x hx => B5.out.block x hx.2)).wide (fun x hx => ⟨⟨Nat.le_trans TD.out.lt hx.1, Nat.lt_of_lt_of_le hx.2 B5.out.size, fun e => absurd (SD.out.en.lt _ e).2 (Nat.not_lt.2 hx.1)⟩, fun e => by
            rcases e with e | e
            · exact absurd (SD.out.va.lt _ e).2 (Nat.not_lt.2 hx.1)
            · exact absurd (SD.out.pr.lt _ e).2 (Nat.not_lt.2 hx.1)⟩)⟩))
        obtain ⟨A6, n6, c6, rfl⟩ : ∃ A n c, v6 = .slice A n c := by
          obtain ⟨A, c, e⟩ := ps_row_slice ho
          exact ⟨A, _, c, e⟩
        clear ho hg hv hcs1 hcs2 hcs3
        refine hK.out _ _ trivial (fun h9 => ?_)
        clear hK K'
        try simp only [Act.put, List.setIfInBounds_toArray, List.set_cons_zero, List.set_cons_succ]
        refine wpAnyH_take (i := 9) (oi := ⟨some 18, _, _, _, _, _⟩) (v := ?_) rfl (by kernel_rfl) (by kernel_rfl) (by kernel_rfl) (fun _ _ _ h => h) (Or.inl ⟨by rfl, ?_⟩) h9 ?_
        rotate_left
        · intro w hSw
          try dsimp only at hSw
          go_simp
          try with_reducible rfl
        try simp only [Act.put, List.setIfInBounds_toArray, List.set_cons_zero, List.set_cons_succ]
        refine wpAnyH_take (i := 10) (oi := ⟨some 19, _, _, _, _, _⟩) (v := ?_) rfl (by kernel_rfl) (by kernel_rfl) (by kernel_rfl) (fun _ _ _ h => h) (Or.inl ⟨by rfl, ?_⟩) h9 ?_
        rotate_left
        · intro w hSw
          try dsimp only at hSw
          go_simp
          try with_reducible rfl
        try simp only [Act.put, List.setIfInBounds_toArray, List.set_cons_zero, List.set_cons_succ]
        refine wpAnyH_ready (rs := [11]) (by kernel_rfl) (by simp) ?_
        refine (AllReadyH.cons (o := ⟨none, _, _, _, _, _⟩) rfl (fun K' hK => ?_) AllReadyH.nil)
        have t0 := T6.out.cell 0
        have t1 := T6.out.frozen 0
        have t2 := T6.out.lt
        simp at t0
        go_simp
        refine hK.out _ _ trivial (fun h10 => ?_)
        clear hK K'
        try simp only [Act.put, List.setIfInBounds_toArray, List.set_cons_zero, List.set_cons_succ]
        clear t0 t1 t2
        refine wpAnyH_done (by kernel_rfl) ?_ _
        have S7 := Lib.hid (S6.out.set_ 0 (.slice A6 n6 c6))
        have T7 := Lib.hid (T6.out.set_ 0 (.slice A6 n6 c6))
        go_wp2_with fail
        go_end0
        exact ⟨rfl, _, _, _, _, by rw [HRes.out]; exact S7.out, T7.out⟩
      · have B5 : Hid (Below w4.heap.size w4 (w4.alloc (.cells #[.string r.2.1, .slice AL mL cL] 64))) := Lib.hid ((Below.refl _ _).alloc (Nat.le_refl _) _)
        have S5 := Lib.hid (S4.out.below B5.out)
        have T5 := Lib.hid (T4.out.below B5.out T4.out.lt)
        have N5 := Lib.hid (Blk.new w4 64 #[.string r.2.1, .slice AL mL cL])
        go_simp
        refine hK.out _ _ trivial (fun h3 => ?_)
        clear hK K'
        try simp only [Act.put, List.setIfInBounds_toArray, List.set_cons_zero, List.set_cons_succ]
        refine wpAnyH_ready (rs := [4]) (by kernel_rfl) (by simp) ?_
        refine (AllReadyH.cons (o := ⟨some 13, _, _, _, _, _⟩) rfl (fun K' hK => ?_) AllReadyH.nil)
        have tf : (w4.alloc (.cells #[.string r.2.1, .slice AL mL cL] 64)).cell? ⟨g3, 0, none⟩ = some (.slice A1 q.enums.length c1) := T5.out.cell 0
        go_simp
        refine hK.out _ _ trivial (fun h4 => ?_)
        clear hK K'
        try simp only [Act.put, List.setIfInBounds_toArray, List.set_cons_zero, List.set_cons_succ]
        clear tf
        refine wpAnyH_ready (rs := [8]) (by kernel_rfl) (by simp) ?_
        refine (AllReadyH.cons (o := ⟨some 17, _, _, _, _, _⟩) rfl (fun K' hK => ?_) AllReadyH.nil)
        obtain ⟨css, hcs1, hcs2, hcs3⟩ := S5.out.en
        rw [if_pos (by rfl)]
        refine wp_append_at (.tmp 13) (.tmp 16) 34 rfl (g3 + 1) 64 i0 (.agg #[.string ⟨#[]⟩, .slice none 0 0]) 2 40 Tryd.underlying34 HI0.out.1 HI0.out.2.1 HI0.out.2.2.1 HI0.out.2.2.2 rfl (by decide) (.slice A1 q.enums.length c1) q.enums.length css.flatten rfl hcs2 ⟨w4.heap.size, 0, none⟩ 1 1 [.string r.2.1, .slice AL mL cL] rfl rfl (news_two N5.out) (one_two _ _ _ _) (by have := HL.out; unfold maxLen; omega) (by have := HL.out; omega) T5.out.lt ?_
        intro v6 w6 ho hg hv
        have T6 : Hid (Blk w6 g3 39 #[(.slice A1 q.enums.length c1), (.slice A2 q.vars.length c2), (.slice A3 q.procs.length c3), .slice none 0 0]) := Lib.hid ((hg.block g3 T5.out.lt (fun e => absurd (S5.out.en.lt g3 e.symm).1 (Nat.not_succ_le_self _))).trans T5.out)
        have S6 := Lib.hid (S5.out.moreE (x := r.2) hcs1 hcs3 ho hg hv rfl (⟨_, rfl, (R4.out.kept (fun x hx => B5.out.block x hx.2)).wide (fun x hx => ⟨⟨Nat.le_trans TD.out.lt hx.1, Nat.lt_of_lt_of_le hx.2 B5.out.size, fun e => absurd (SD.out.en.lt _ e).2 (Nat.not_lt.2 hx.1)⟩, fun e => by
            rcases e with e | e
            · exact absurd (SD.out.va.lt _ e).2 (Nat.not_lt.2 hx.1)
            · exact absurd (SD.out.pr.lt _ e).2 (Nat.not_lt.2 hx.1)⟩)⟩))
        obtain ⟨A6, n6, c6, rfl⟩ : ∃ A n c, v6 = .slice A n c := by
          obtain ⟨A, c, e⟩ := ps_row_slice ho
          exact ⟨A, _, c, e⟩
        clear ho hg hv hcs1 hcs2 hcs3
        refine hK.out _ _ trivial (fun h9 => ?_)
        clear hK K'
        try simp only [Act.put, List.setIfInBounds_toArray, List.set_cons_zero, List.set_cons_succ]
        refine wpAnyH_take (i := 9) (oi := ⟨some 18, _, _, _, _, _⟩) (v := ?_) rfl (by kernel_rfl) (by kernel_rfl) (by kernel_rfl) (fun _ _ _ h => h) (Or.inl ⟨by rfl, ?_⟩) h9 ?_
        rotate_left
        · intro w hSw
          try dsimp only at hSw
          go_simp
          try with_reducible rfl
        try simp only [Act.put, List.setIfInBounds_toArray, List.set_cons_zero, List.set_cons_succ]
        refine wpAnyH_take (i := 10) (oi := ⟨some 19, _, _, _, _, _⟩) (v := ?_) rfl (by kernel_rfl) (by kernel_rfl) (by kernel_rfl) (fun _ _ _ h => h) (Or.inl ⟨by rfl, ?_⟩) h9 ?_
        rotate_left
        · intro w hSw
          try dsimp only at hSw
          go_simp
          try with_reducible rfl
        try simp only [Act.put, List.setIfInBounds_toArray, List.set_cons_zero, List.set_cons_succ]
        refine wpAnyH_ready (rs := [11]) (by kernel_rfl) (by simp) ?_
        refine (AllReadyH.cons (o := ⟨none, _, _, _, _, _⟩) rfl (fun K' hK => ?_) AllReadyH.nil)
        have t0 := T6.out.cell 0
        have t1 := T6.out.frozen 0
        have t2 := T6.out.lt
        simp at t0
        go_simp
        refine hK.out _ _ trivial (fun h10 => ?_)
        clear hK K'
        try simp only [Act.put, List.setIfInBounds_toArray, List.set_cons_zero, List.set_cons_succ]
        clear t0 t1 t2
        refine wpAnyH_done (by kernel_rfl) ?_ _
        have S7 := Lib.hid (S6.out.set_ 0 (.slice A6 n6 c6))
        have T7 := Lib.hid (T6.out.set_ 0 (.slice A6 n6 c6))
        go_wp2_with fail
        go_end0
        exact ⟨rfl, _, _, _, _, by rw [HRes.out]; exact S7.out, T7.out⟩
end
end Go.Proofs.YteaongdlbleehaaDoor
