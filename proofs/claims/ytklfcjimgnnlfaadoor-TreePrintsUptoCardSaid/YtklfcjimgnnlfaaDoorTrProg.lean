/- The tree layer: the law's Prog: the program's tree, of the document's. -/
import Derived.Test.YtklfcjimgnnlfaaDoorTrProgS
import Derived.Deep.RegionLaw
import Derived.Deep.DrawnRows
namespace Go.Proofs.YtklfcjimgnnlfaaDoor
open Go.RowKit
attribute [local go_sem ↓] Go.wp_at_zero Go.wp_at_succ
theorem row_slice {w : World} {base k n : Nat} {T : TypeId} {v : Value} {xs : List Value} (h : w.ownsRow base T k v (n + 1) xs) : ∃ A c, v = .slice A (n + 1) c := by
  rcases h.2 with ⟨_, h0⟩ | ⟨g, cap, cur, e, _⟩
  · omega
  · exact ⟨_, _, e⟩
set_option maxRecDepth 100000 in
set_option maxHeartbeats 12800000 in
theorem prog_any (n : Nat) (p : Pg) (vE vV vP vM : Value) (W : World) (h : PgR (fun b => b < W.heap.size) n W p vE vV vP vM) : Calls Tryd.prog 8 #[pgV vE vV vP vM] W (RetPg n p W) := by
  obtain ⟨A1, c1, rfl, hc1, hl1, hat1⟩ := h.en
  obtain ⟨A2, c2, rfl, hc2, hl2, hat2⟩ := h.va
  obtain ⟨A3, c3, rfl, hc3, hl3, hat3⟩ := h.pr
  obtain ⟨A4, c4, rfl, hc4, hl4⟩ := h.mn.slice
  have HM4 := Lib.hid h.mn
  have HAt1 := Lib.hid hat1
  have HAt2 := Lib.hid hat2
  have HAt3 := Lib.hid hat3
  have HLim1 := Lib.hid hl1
  have HLim2 := Lib.hid hl2
  have HLim3 := Lib.hid hl3
  have hz1 : p.enums.length ≤ 35184372088832 := by omega
  have hz2 : p.vars.length ≤ 35184372088832 := by omega
  have hz3 : p.procs.length ≤ 35184372088832 := by omega
  obtain ⟨i0, hi0, hq0, hq1, hq2⟩ := info_parts enfo
  have HI0 := Lib.hid (And.intro hi0 (And.intro hq0 (And.intro hq1 hq2)))
  clear hi0 hq0 hq1 hq2
  obtain ⟨i1, hi0, hq0, hq1, hq2⟩ := info_parts vafo
  have HI1 := Lib.hid (And.intro hi0 (And.intro hq0 (And.intro hq1 hq2)))
  clear hi0 hq0 hq1 hq2
  obtain ⟨i2, hi0, hq0, hq1, hq2⟩ := info_parts prfo
  have HI2 := Lib.hid (And.intro hi0 (And.intro hq0 (And.intro hq1 hq2)))
  clear hi0 hq0 hq1 hq2 hat1 hat2 hat3 hl1 hl2 hl3 hl4 hc4 h
  obtain ⟨m1, hm1⟩ : ∃ m, p.enums.length = m := ⟨_, rfl⟩
  obtain ⟨m2, hm2⟩ : ∃ m, p.vars.length = m := ⟨_, rfl⟩
  obtain ⟨m3, hm3⟩ : ∃ m, p.procs.length = m := ⟨_, rfl⟩
  have HN1 := Lib.hid hm1
  have HN2 := Lib.hid hm2
  have HN3 := Lib.hid hm3
  rw [hm1] at hz1 hc1 HLim1 ⊢
  rw [hm2] at hz2 hc2 HLim2 ⊢
  rw [hm3] at hz3 hc3 HLim3 ⊢
  clear hm1 hm2 hm3
  obtain ⟨Wa, hWa⟩ : ∃ Wa, Wa = W.alloc (.cells #[.slice A1 m1 c1, .slice A2 m2 c2, .slice A3 m3 c3, .slice A4 p.main.length c4] 27) := ⟨_, rfl⟩
  obtain ⟨W0, hW0⟩ : ∃ W0, W0 = Wa.alloc (.cells #[.slice none 0 0, .slice none 0 0, .slice none 0 0, .slice none 0 0] 35) := ⟨_, rfl⟩
  have hba : Below W.heap.size W Wa := by rw [hWa]; exact (Below.refl _ _).alloc (Nat.le_refl _) _
  have hbb : Below Wa.heap.size Wa W0 := by rw [hW0]; exact (Below.refl _ _).alloc (Nat.le_refl _) _
  have hsa : Wa.heap.size = W.heap.size + 1 := by rw [hWa, World.size_alloc]
  have hsb : W0.heap.size = W.heap.size + 1 + 1 := by rw [hW0, World.size_alloc, hsa]
  have hka : Blk Wa W.heap.size 27 #[.slice A1 m1 c1, .slice A2 m2 c2, .slice A3 m3 c3, .slice A4 p.main.length c4] := by rw [hWa]; exact Blk.new W _ _
  have HK1 : Hid (Blk W0 W.heap.size 27 #[.slice A1 m1 c1, .slice A2 m2 c2, .slice A3 m3 c3, .slice A4 p.main.length c4]) := Lib.hid (hka.below hbb hka.lt)
  have HK2 : Hid (Blk W0 (W.heap.size + 1) 35 #[.slice none 0 0, .slice none 0 0, .slice none 0 0, .slice none 0 0]) := Lib.hid (by rw [hW0, ← hsa]; exact Blk.new Wa _ _)
  have HB0 := Lib.hid (thru hba hbb)
  have HS0 := Lib.hid hsb
  have HW0 : Hid (W0 = (W.alloc (.cells #[.slice A1 m1 c1, .slice A2 m2 c2, .slice A3 m3 c3, .slice A4 p.main.length c4] 27)).alloc (.cells #[.slice none 0 0, .slice none 0 0, .slice none 0 0, .slice none 0 0] 35)) := Lib.hid (by rw [← hWa]; exact hW0)
  clear hWa hW0 hba hbb hsa hka hsb
  have HC : Hid (Calls Tryd.prog 25 #[.slice A4 p.main.length c4] W0 (RetSt n p.main W0)) := Lib.hid (stmts_any n p.main _ _ W0 (HM4.out.below HB0.out (fun b h => h)) (lo_up (fun b h => h) HB0.out.size))
  have y0 := HK1.out.cell 3
  simp at y0
  go_enter Tryd.func8, Tryd.ntmps8
  go_upto_region 1 with fail
  rw [← HW0.out]
  go_upto_region 2 with (first
    | (go_at_call 25; have HX := HC.out; (with_reducible refine HX.mono ?_); clear HX; rintro e w1 ⟨yM, rfl, hyM, hb⟩; obtain ⟨M4, d4, rfl, -, -⟩ := hyM.slice; have HYM := Lib.hid hyM; have E1 := Lib.hid hb; clear hb hyM y0))
  have HP0 := Lib.hid (pi_new W w1 n (.slice M4 p.main.length d4))
  obtain ⟨W2, hW2⟩ : ∃ W2, W2 = w1.alloc (.cells #[.slice none 0 0, .slice none 0 0, .slice none 0 0, .slice M4 p.main.length d4] 35) := ⟨_, rfl⟩
  rw [← hW2] at HP0
  rw [← hW2]
  clear hW2 HW0
  have HG1 : Hid (∀ w', Below w1.heap.size w1 w' → Blk w' W.heap.size 27 #[.slice A1 m1 c1, .slice A2 m2 c2, .slice A3 m3 c3, .slice A4 p.main.length c4]) := Lib.hid fun w' hb => (HK1.out.below (thru E1.out hb) HK1.out.lt)
  have HG2 : Hid (∀ w', Below w1.heap.size w1 w' → Blk w' (W.heap.size + 1) 35 #[.slice none 0 0, .slice none 0 0, .slice none 0 0, .slice none 0 0]) := Lib.hid fun w' hb => (HK2.out.below (thru E1.out hb) HK2.out.lt)
  have HBW : Hid (∀ w', Below w1.heap.size w1 w' → Below W.heap.size W w') := Lib.hid fun w' hb => thru HB0.out (thru E1.out hb)
  have y0 := (HG1.out _ HP0.out.low).cell 0
  simp at y0
  go_wp2_with fail
  go_loopw [17] (fun i wr => ∃ (k : Nat) (v : Value), i = .int .i64 (k : Int) ∧ k ≤ m1 ∧ PI W w1 n (.slice M4 p.main.length d4) v (.slice none 0 0) (.slice none 0 0) v (.slice none 0 0) (.slice none 0 0) (p.enums.take k) [] [] wr) (fun i _ => m1 - (RowKit.intOf i).toNat)
  case atStart => exact ⟨0, .slice none 0 0, rfl, Nat.zero_le _, by rw [List.take_zero]; exact HP0.out⟩
  case round =>
    obtain ⟨k, v, rfl, hk, hpi⟩ := hrel
    have HPI := Lib.hid hpi
    clear hpi HP0 y0
    by_cases hlt : k < m1
    · obtain ⟨x, hx⟩ : ∃ x, p.enums[k]? = some x := ⟨p.enums[k]'(by rw [HN1.out]; exact hlt), List.getElem?_eq_getElem _⟩
      obtain ⟨b, off, L, rfl, hbB, hcc, hstr⟩ := HAt1.out k x hx
      obtain ⟨x0, x1⟩ := keep2 hcc ((HBW.out _ HPI.out.low).block b hbB)
      obtain ⟨AL, cL, rfl, -, -⟩ := hstr.slice
      have HX := Lib.hid hx
      have HTl : Hid ((p.enums.take k).length = k) := Lib.hid (by rw [List.length_take, HN1.out]; omega)
      have HStr := Lib.hid hstr
      obtain ⟨W3, hW3⟩ : ∃ W3, W3 = wr.alloc (.cells #[.string x.1, .slice AL x.2.length cL] 67) := ⟨_, rfl⟩
      have B3 : Hid (Below wr.heap.size wr W3) := Lib.hid (by rw [hW3]; exact (Below.refl _ _).alloc (Nat.le_refl _) _)
      have K3 : Hid (Blk W3 wr.heap.size 67 #[.string x.1, .slice AL x.2.length cL]) := Lib.hid (by rw [hW3]; exact Blk.new wr _ _)
      have X3 := Lib.hid (HPI.out.below B3.out)
      have X4 := Lib.hid (X3.out.below ((Below.refl _ _).alloc (Nat.le_refl _) (.cells #[.string x.1, .slice AL x.2.length cL] 68)))
      have N4 := Lib.hid (Blk.new W3 68 #[.string x.1, .slice AL x.2.length cL])
      obtain ⟨css, hcs1, hcs2, hcs3⟩ := X4.out.en
      rw [HTl.out] at hcs2
      have C1 := Lib.hid hcs1
      have C2 := Lib.hid hcs2
      have C3 := Lib.hid hcs3
      have HW3 := Lib.hid hW3
      clear hcs1 hcs2 hcs3 hcc hstr hx hW3
      have o0 := X3.out.box.cell 0
      have t0 := K3.out.cell 0
      have t1 := K3.out.cell 1
      simp at o0 t0 t1
      go_upto_region 5 with fail
      rw [← HW3.out]
      clear x0 x1
      go_wp2_with (at_builtin; refine wpList_append_at rfl _ _ 30 rfl (w1.heap.size + 1) 68 i0 (.agg #[.string ⟨#[]⟩, .slice none 0 0]) 2 40 Tryd.underlying30 HI0.out.1 HI0.out.2.1 HI0.out.2.2.1 HI0.out.2.2.2 rfl (by decide) v k css.flatten rfl C2.out ⟨W3.heap.size, 0, none⟩ 1 1 [.string x.1, .slice AL x.2.length cL] rfl rfl (news_two N4.out) (one_two _ _ _ _) (by unfold maxLen; omega) (by have := HLim1.out; omega) X4.out.base ?_; intro v5 w5 ho hg hv; obtain ⟨A5, c5, rfl⟩ := row_slice ho; have X5 := Lib.hid (X4.out.moreE HX.out C1.out C3.out C2.out ho hg hv ⟨rfl, _, rfl, HStr.out⟩); have s0 := X5.out.box.cell 0; have s1 := X5.out.box.frozen 0; have s2 := X5.out.box.lt; simp at s0; clear ho hg hv o0 t0 t1)
      go_roundw
      case rel => exact ⟨k + 1, .slice A5 (k + 1) c5, by go_num, hlt, X5.out.putE⟩
      case measure => simp [RowKit.intOf]; omega
    · have he : k = m1 := by omega
      subst he
      have hT : p.enums.take k = p.enums := by rw [← HN1.out, List.take_length]
      rw [hT] at HPI
      clear hT
      have y0 := (HG1.out _ HPI.out.low).cell 1
      simp at y0
      go_wp2_with fail
      go_loopw [35] (fun i wr => ∃ (k2 : Nat) (u : Value), i = .int .i64 (k2 : Int) ∧ k2 ≤ m2 ∧ PI W w1 n (.slice M4 p.main.length d4) v u (.slice none 0 0) v u (.slice none 0 0) p.enums (p.vars.take k2) [] wr) (fun i _ => m2 - (RowKit.intOf i).toNat)
      case atStart => exact ⟨0, .slice none 0 0, rfl, Nat.zero_le _, by rw [List.take_zero]; exact HPI.out⟩
      case round =>
        obtain ⟨k2, u, rfl, hk2, hpi⟩ := hrel
        clear HPI y0
        have HPI := Lib.hid hpi
        clear hpi
        by_cases hlt2 : k2 < m2
        · obtain ⟨x, hx⟩ : ∃ x, p.vars[k2]? = some x := ⟨p.vars[k2]'(by rw [HN2.out]; exact hlt2), List.getElem?_eq_getElem _⟩
          obtain ⟨b, off, rfl, hbB, hcc, hin⟩ := HAt2.out k2 x hx
          obtain ⟨x0, x1, x2⟩ := keep3 hcc ((HBW.out _ HPI.out.low).block b hbB)
          have HX := Lib.hid hx
          have HTl : Hid ((p.vars.take k2).length = k2) := Lib.hid (by rw [List.length_take, HN2.out]; omega)
          have HIn := Lib.hid hin
          obtain ⟨W3, hW3⟩ : ∃ W3, W3 = wr.alloc (.cells #[.string x.1, .string x.2.1, .int .i64 x.2.2] 42) := ⟨_, rfl⟩
          have B3 : Hid (Below wr.heap.size wr W3) := Lib.hid (by rw [hW3]; exact (Below.refl _ _).alloc (Nat.le_refl _) _)
          have K3 : Hid (Blk W3 wr.heap.size 42 #[.string x.1, .string x.2.1, .int .i64 x.2.2]) := Lib.hid (by rw [hW3]; exact Blk.new wr _ _)
          have X3 := Lib.hid (HPI.out.below B3.out)
          have X4 := Lib.hid (X3.out.below ((Below.refl _ _).alloc (Nat.le_refl _) (.cells #[.string x.1, .string x.2.1, .int .i64 x.2.2] 69)))
          have N4 := Lib.hid (Blk.new W3 69 #[.string x.1, .string x.2.1, .int .i64 x.2.2])
          obtain ⟨css, hcs1, hcs2, hcs3⟩ := X4.out.va
          rw [HTl.out] at hcs2
          have C1 := Lib.hid hcs1
          have C2 := Lib.hid hcs2
          have C3 := Lib.hid hcs3
          have HW3 := Lib.hid hW3
          clear hcs1 hcs2 hcs3 hcc hx hW3 hin
          have o0 := X3.out.box.cell 1
          have t0 := K3.out.cell 0
          have t1 := K3.out.cell 1
          have t2 := K3.out.cell 2
          simp at o0 t0 t1 t2
          go_upto_region 10 with fail
          rw [← HW3.out]
          clear x0 x1 x2
          go_wp2_with (at_builtin; refine wpList_append_at rfl _ _ 31 rfl (w1.heap.size + 1) 69 i1 (.agg #[.string ⟨#[]⟩, .string ⟨#[]⟩, .int .i64 0]) 3 40 Tryd.underlying31 HI1.out.1 HI1.out.2.1 HI1.out.2.2.1 HI1.out.2.2.2 rfl (by decide) u k2 css.flatten rfl C2.out ⟨W3.heap.size, 0, none⟩ 1 1 [.string x.1, .string x.2.1, .int .i64 x.2.2] rfl rfl (news_three N4.out) (one_three _ _ _) (by unfold maxLen; omega) (by have := HLim2.out; omega) X4.out.base ?_; intro v5 w5 ho hg hv; obtain ⟨A5, c5, rfl⟩ := row_slice ho; have X5 := Lib.hid (X4.out.moreV HX.out C1.out C3.out C2.out ho hg hv ⟨rfl, rfl, HIn.out⟩); have s0 := X5.out.box.cell 1; have s1 := X5.out.box.frozen 1; have s2 := X5.out.box.lt; simp at s0; clear ho hg hv o0 t0 t1 t2)
          go_roundw
          case rel => exact ⟨k2 + 1, .slice A5 (k2 + 1) c5, by go_num, hlt2, X5.out.putV⟩
          case measure => simp [RowKit.intOf]; omega
        · have he : k2 = m2 := by omega
          subst he
          have hT : p.vars.take k2 = p.vars := by rw [← HN2.out, List.take_length]
          rw [hT] at HPI
          clear hT
          have y0 := (HG1.out _ HPI.out.low).cell 2
          simp at y0
          go_wp2_with fail
          go_loopw [49] (fun i wr => ∃ (k3 : Nat) (z : Value), i = .int .i64 (k3 : Int) ∧ k3 ≤ m3 ∧ PI W w1 n (.slice M4 p.main.length d4) v u z v u z p.enums p.vars (p.procs.take k3) wr) (fun i _ => m3 - (RowKit.intOf i).toNat)
          case atStart => exact ⟨0, .slice none 0 0, rfl, Nat.zero_le _, by rw [List.take_zero]; exact HPI.out⟩
          case round =>
            obtain ⟨k3, z, rfl, hk3, hpi⟩ := hrel
            clear HPI y0
            have HPI := Lib.hid hpi
            clear hpi
            by_cases hlt3 : k3 < m3
            · obtain ⟨x, hx⟩ : ∃ x, p.procs[k3]? = some x := ⟨p.procs[k3]'(by rw [HN3.out]; exact hlt3), List.getElem?_eq_getElem _⟩
              obtain ⟨b, off, L, rfl, hbB, hcc, hstr⟩ := HAt3.out k3 x hx
              obtain ⟨x0, x1⟩ := keep2 hcc ((HBW.out _ HPI.out.low).block b hbB)
              obtain ⟨AL, cL, rfl, -, -⟩ := hstr.slice
              have HX := Lib.hid hx
              have HTl : Hid ((p.procs.take k3).length = k3) := Lib.hid (by rw [List.length_take, HN3.out]; omega)
              obtain ⟨W1, hW1⟩ : ∃ W1, W1 = wr.alloc (.cells #[.string x.1, .slice AL x.2.length cL] 58) := ⟨_, rfl⟩
              have HB1 : Hid (Below wr.heap.size wr W1) := Lib.hid (by rw [hW1]; exact (Below.refl _ _).alloc (Nat.le_refl _) _)
              have KB1 : Hid (Blk W1 wr.heap.size 58 #[.string x.1, .slice AL x.2.length cL]) := Lib.hid (by rw [hW1]; exact Blk.new wr _ _)
              have XW1 := Lib.hid (HPI.out.below HB1.out)
              have B1 : Hid (Below W1.heap.size W1 W1.drew) := Lib.hid (Below.refl _ _).drew
              have HVl := Lib.hid (fun g e => (HPI.out.pr.lt g e).2)
              have HGt : Hid (w1.heap.size < wr.heap.size) := Lib.hid HPI.out.base
              have HCx : Hid (∀ w2, Below W1.heap.size W1 w2 → Calls Tryd.prog 25 #[.slice AL x.2.length cL] w2 (RetSt n x.2 w2)) := Lib.hid fun w2 hb2 => by
                have q := thru (thru (HBW.out _ HPI.out.low) HB1.out) hb2
                exact stmts_any n x.2 _ _ w2 (hstr.below q (fun b h => h)) (lo_up (fun b h => h) q.size)
              have HS2 : Hid (∀ w', Blk w' wr.heap.size 58 #[.string x.1, .slice AL x.2.length cL] → (w'.cell? ⟨wr.heap.size, 0, none⟩ = some (.string x.1) ∧ w'.cell? ⟨wr.heap.size, 1, none⟩ = some (.slice AL x.2.length cL))) := Lib.hid fun w' h => ⟨h.cell 0, h.cell 1⟩
              have K1 := Lib.hid (HS2.out _ (KB1.out.below B1.out KB1.out.lt))
              have HW1 := Lib.hid hW1
              clear hcc hstr hx hW1
              go_upto_region 15 with fail
              rw [← HW1.out]
              clear x0 x1
              refine wp_region_held_drew (S := fun w' => w'.cell? ⟨wr.heap.size, 0, none⟩ = some (.string x.1) ∧ w'.cell? ⟨wr.heap.size, 1, none⟩ = some (.slice AL x.2.length cL)) (by kernel_rfl) K1.out (fun k0 => ?_)
              refine wpAnyH_take (i := 0) (oi := ⟨some 53, _, _, _, _, _⟩) (v := ?_) rfl (by kernel_rfl) (by kernel_rfl) (by kernel_rfl) (fun _ _ _ h => h) (Or.inl ⟨by rfl, ?_⟩) k0 ?_
              rotate_left
              · intro w hSw
                try dsimp only at hSw
                go_simp
                try with_reducible rfl
              try simp only [Act.put, List.setIfInBounds_toArray, List.set_cons_zero, List.set_cons_succ]
              refine wpAnyH_take (i := 2) (oi := ⟨some 55, _, _, _, _, _⟩) (v := ?_) rfl (by kernel_rfl) (by kernel_rfl) (by kernel_rfl) (fun _ _ _ h => h) (Or.inl ⟨by rfl, ?_⟩) k0 ?_
              rotate_left
              · intro w hSw
                try dsimp only at hSw
                go_simp
                try with_reducible rfl
              try simp only [Act.put, List.setIfInBounds_toArray, List.set_cons_zero, List.set_cons_succ]
              refine wpAnyH_take (i := 3) (oi := ⟨some 56, _, _, _, _, _⟩) (v := ?_) rfl (by kernel_rfl) (by kernel_rfl) (by kernel_rfl) (fun _ _ _ h => h) (Or.inl ⟨by rfl, ?_⟩) k0 ?_
              rotate_left
              · intro w hSw
                try dsimp only at hSw
                go_simp
                try with_reducible rfl
              try simp only [Act.put, List.setIfInBounds_toArray, List.set_cons_zero, List.set_cons_succ]
              refine wpAnyH_take (i := 4) (oi := ⟨some 57, _, _, _, _, _⟩) (v := ?_) rfl (by kernel_rfl) (by kernel_rfl) (by kernel_rfl) (fun _ _ _ h => h) (Or.inl ⟨by rfl, ?_⟩) k0 ?_
              rotate_left
              · intro w hSw
                try dsimp only at hSw
                go_simp
                try with_reducible rfl
              try simp only [Act.put, List.setIfInBounds_toArray, List.set_cons_zero, List.set_cons_succ]
              refine wpAnyH_take (i := 5) (oi := ⟨some 58, _, _, _, _, _⟩) (v := ?_) rfl (by kernel_rfl) (by kernel_rfl) (by kernel_rfl) (fun _ _ _ h => h) (Or.inl ⟨by rfl, ?_⟩) k0 ?_
              rotate_left
              · intro w hSw
                try dsimp only at hSw
                go_simp
                try with_reducible rfl
              try simp only [Act.put, List.setIfInBounds_toArray, List.set_cons_zero, List.set_cons_succ]
              refine wpAnyH_ready (rs := [1, 6]) (by kernel_rfl) (by simp) ?_
              refine (AllReadyH.cons (o := ⟨some 54, _, _, _, _, _⟩) rfl (fun K' hK => ?_) (AllReadyH.cons (o := ⟨some 59, _, _, _, _, _⟩) rfl (fun K' hK => ?_) AllReadyH.nil))
              · have tf : W1.cell? ⟨w1.heap.size, 2, none⟩ = some z := XW1.out.box.cell 2
                go_simp
                refine hK.out _ _ K1.out (fun h1 => ?_)
                clear hK K'
                try simp only [Act.put, List.setIfInBounds_toArray, List.set_cons_zero, List.set_cons_succ]
                clear tf
                refine wpAnyH_ready (rs := [6]) (by kernel_rfl) (by simp) ?_
                refine (AllReadyH.cons (o := ⟨some 59, _, _, _, _, _⟩) rfl (fun K' hK => ?_) AllReadyH.nil)
                go_simp
                refine (HCx.out _ B1.out).mono ?_
                rintro e w2 ⟨L2, rfl, hL2, hb⟩
                have B2 : Hid (Below W1.heap.size W1 w2) := Lib.hid (thru B1.out hb)
                have Xw2 := Lib.hid (XW1.out.below B2.out)
                have KB2 := Lib.hid (KB1.out.below B2.out KB1.out.lt)
                have K2 := Lib.hid (HS2.out _ KB2.out)
                have HL2 := Lib.hid hL2
                obtain ⟨A2, c2, rfl, -, -⟩ := hL2.slice
                clear hb hL2
                go_wp2_with fail
                refine hK.out _ _ K2.out (fun h2 => ?_)
                clear hK K'
                try simp only [Act.put, List.setIfInBounds_toArray, List.set_cons_zero, List.set_cons_succ]
                refine wpAnyH_take (i := 7) (oi := ⟨some 60, _, _, _, _, _⟩) (v := ?_) rfl (by kernel_rfl) (by kernel_rfl) (by kernel_rfl) (fun _ _ _ h => h) (Or.inl ⟨by rfl, ?_⟩) h2 ?_
                rotate_left
                · intro w hSw
                  try dsimp only at hSw
                  go_simp
                  try with_reducible rfl
                try simp only [Act.put, List.setIfInBounds_toArray, List.set_cons_zero, List.set_cons_succ]
                refine wpAnyH_ready (rs := [8]) (by kernel_rfl) (by simp) ?_
                refine (AllReadyH.cons (o := ⟨some 61, _, _, _, _, _⟩) rfl (fun K' hK => ?_) AllReadyH.nil)
                have B3 : Hid (Below w2.heap.size w2 (w2.alloc (.cells #[.string x.1, .slice A2 x.2.length c2] 47))) := Lib.hid ((Below.refl _ _).alloc (Nat.le_refl _) _)
                have X3 := Lib.hid (Xw2.out.below B3.out)
                have KB3 := Lib.hid (KB2.out.below B3.out KB2.out.lt)
                have K3 := Lib.hid (HS2.out _ KB3.out)
                have N3 := Lib.hid (Blk.new w2 47 #[.string x.1, .slice A2 x.2.length c2])
                go_simp
                refine hK.out _ _ K3.out (fun h8 => ?_)
                clear hK K'
                try simp only [Act.put, List.setIfInBounds_toArray, List.set_cons_zero, List.set_cons_succ]
                refine wpAnyH_ready (rs := [9]) (by kernel_rfl) (by simp) ?_
                refine (AllReadyH.cons (o := ⟨some 62, _, _, _, _, _⟩) rfl (fun K' hK => ?_) AllReadyH.nil)
                obtain ⟨css, hcs1, hcs2, hcs3⟩ := X3.out.pr
                rw [HTl.out] at hcs2
                rw [if_pos (by rfl)]
                refine wp_append_at (.tmp 54) (.tmp 61) 32 rfl (w1.heap.size + 1) 47 i2 (.agg #[.string ⟨#[]⟩, .slice none 0 0]) 2 40 Tryd.underlying32 HI2.out.1 HI2.out.2.1 HI2.out.2.2.1 HI2.out.2.2.2 rfl (by decide) z k3 css.flatten rfl hcs2 ⟨w2.heap.size, 0, none⟩ 1 1 [.string x.1, .slice A2 x.2.length c2] rfl rfl (news_two N3.out) (one_two _ _ _ _) (by unfold maxLen; omega) (by have := HLim3.out; omega) X3.out.base ?_
                intro v5 w5 ho hg hv
                have X5 := Lib.hid (X3.out.moreP HX.out hcs1 hcs3 hcs2 ho hg hv ⟨rfl, _, rfl, (HL2.out.below B3.out (fun b q => q.2)).wide (fun b q => ⟨Nat.le_trans XW1.out.base q.1, Nat.lt_of_lt_of_le q.2 B3.out.size, fun e => absurd (XW1.out.pr.lt b e).2 (Nat.not_lt.2 q.1)⟩)⟩)
                have KB5 : Hid (Blk w5 wr.heap.size 58 #[.string x.1, .slice AL x.2.length cL]) := Lib.hid (KB3.out.grown hg (fun e => absurd (HVl.out _ e.symm) (Nat.lt_irrefl _)))
                have K5 := Lib.hid (HS2.out _ KB5.out)
                obtain ⟨A5, c5, rfl⟩ := row_slice ho
                clear ho hg hv hcs1 hcs2 hcs3
                refine hK.out _ _ K5.out (fun h9 => ?_)
                clear hK K'
                try simp only [Act.put, List.setIfInBounds_toArray, List.set_cons_zero, List.set_cons_succ]
                refine wpAnyH_take (i := 10) (oi := ⟨some 63, _, _, _, _, _⟩) (v := ?_) rfl (by kernel_rfl) (by kernel_rfl) (by kernel_rfl) (fun _ _ _ h => h) (Or.inl ⟨by rfl, ?_⟩) h9 ?_
                rotate_left
                · intro w hSw
                  try dsimp only at hSw
                  go_simp
                  try with_reducible rfl
                try simp only [Act.put, List.setIfInBounds_toArray, List.set_cons_zero, List.set_cons_succ]
                refine wpAnyH_ready (rs := [11]) (by kernel_rfl) (by simp) ?_
                refine (AllReadyH.cons (o := ⟨none, _, _, _, _, _⟩) rfl (fun K' hK => ?_) AllReadyH.nil)
                have t0 := X5.out.box.cell 2
                have t1 := X5.out.box.frozen 2
                have t2 := X5.out.box.lt
                simp at t0
                have K6 := Lib.hid (HS2.out _ (KB5.out.far (p := ⟨w1.heap.size, 2, none⟩) (Nat.ne_of_gt HGt.out) (.slice A5 (k3 + 1) c5)))
                go_simp
                refine hK.out _ _ K6.out (fun h10 => ?_)
                clear hK K'
                try simp only [Act.put, List.setIfInBounds_toArray, List.set_cons_zero, List.set_cons_succ]
                clear t0 t1 t2
                refine wpAnyH_done (by kernel_rfl) ?_ _
                have X6 := Lib.hid (X5.out.putP)
                obtain ⟨w6, hw6⟩ : ∃ x, w5.setCell ⟨w1.heap.size, 2, none⟩ (.slice A5 (k3 + 1) c5) = x := ⟨_, rfl⟩
                rw [hw6] at X6 ⊢
                clear hw6
                go_wp2_with fail
                go_roundw
                case rel => exact ⟨k3 + 1, .slice A5 (k3 + 1) c5, by go_num, hlt3, X6.out⟩
                case measure => simp [RowKit.intOf]; omega
              · go_simp
                refine (HCx.out _ B1.out).mono ?_
                rintro e w2 ⟨L2, rfl, hL2, hb⟩
                have B2 : Hid (Below W1.heap.size W1 w2) := Lib.hid (thru B1.out hb)
                have Xw2 := Lib.hid (XW1.out.below B2.out)
                have KB2 := Lib.hid (KB1.out.below B2.out KB1.out.lt)
                have K2 := Lib.hid (HS2.out _ KB2.out)
                have HL2 := Lib.hid hL2
                obtain ⟨A2, c2, rfl, -, -⟩ := hL2.slice
                clear hb hL2
                go_wp2_with fail
                refine hK.out _ _ K2.out (fun h2 => ?_)
                clear hK K'
                try simp only [Act.put, List.setIfInBounds_toArray, List.set_cons_zero, List.set_cons_succ]
                refine wpAnyH_take (i := 7) (oi := ⟨some 60, _, _, _, _, _⟩) (v := ?_) rfl (by kernel_rfl) (by kernel_rfl) (by kernel_rfl) (fun _ _ _ h => h) (Or.inl ⟨by rfl, ?_⟩) h2 ?_
                rotate_left
                · intro w hSw
                  try dsimp only at hSw
                  go_simp
                  try with_reducible rfl
                try simp only [Act.put, List.setIfInBounds_toArray, List.set_cons_zero, List.set_cons_succ]
                refine wpAnyH_ready (rs := [1, 8]) (by kernel_rfl) (by simp) ?_
                refine (AllReadyH.cons (o := ⟨some 54, _, _, _, _, _⟩) rfl (fun K' hK => ?_) (AllReadyH.cons (o := ⟨some 61, _, _, _, _, _⟩) rfl (fun K' hK => ?_) AllReadyH.nil))
                · have tf : w2.cell? ⟨w1.heap.size, 2, none⟩ = some z := Xw2.out.box.cell 2
                  go_simp
                  refine hK.out _ _ K2.out (fun h3 => ?_)
                  clear hK K'
                  try simp only [Act.put, List.setIfInBounds_toArray, List.set_cons_zero, List.set_cons_succ]
                  clear tf
                  refine wpAnyH_ready (rs := [8]) (by kernel_rfl) (by simp) ?_
                  refine (AllReadyH.cons (o := ⟨some 61, _, _, _, _, _⟩) rfl (fun K' hK => ?_) AllReadyH.nil)
                  have B3 : Hid (Below w2.heap.size w2 (w2.alloc (.cells #[.string x.1, .slice A2 x.2.length c2] 47))) := Lib.hid ((Below.refl _ _).alloc (Nat.le_refl _) _)
                  have X3 := Lib.hid (Xw2.out.below B3.out)
                  have KB3 := Lib.hid (KB2.out.below B3.out KB2.out.lt)
                  have K3 := Lib.hid (HS2.out _ KB3.out)
                  have N3 := Lib.hid (Blk.new w2 47 #[.string x.1, .slice A2 x.2.length c2])
                  go_simp
                  refine hK.out _ _ K3.out (fun h4 => ?_)
                  clear hK K'
                  try simp only [Act.put, List.setIfInBounds_toArray, List.set_cons_zero, List.set_cons_succ]
                  refine wpAnyH_ready (rs := [9]) (by kernel_rfl) (by simp) ?_
                  refine (AllReadyH.cons (o := ⟨some 62, _, _, _, _, _⟩) rfl (fun K' hK => ?_) AllReadyH.nil)
                  obtain ⟨css, hcs1, hcs2, hcs3⟩ := X3.out.pr
                  rw [HTl.out] at hcs2
                  rw [if_pos (by rfl)]
                  refine wp_append_at (.tmp 54) (.tmp 61) 32 rfl (w1.heap.size + 1) 47 i2 (.agg #[.string ⟨#[]⟩, .slice none 0 0]) 2 40 Tryd.underlying32 HI2.out.1 HI2.out.2.1 HI2.out.2.2.1 HI2.out.2.2.2 rfl (by decide) z k3 css.flatten rfl hcs2 ⟨w2.heap.size, 0, none⟩ 1 1 [.string x.1, .slice A2 x.2.length c2] rfl rfl (news_two N3.out) (one_two _ _ _ _) (by unfold maxLen; omega) (by have := HLim3.out; omega) X3.out.base ?_
                  intro v5 w5 ho hg hv
                  have X5 := Lib.hid (X3.out.moreP HX.out hcs1 hcs3 hcs2 ho hg hv ⟨rfl, _, rfl, (HL2.out.below B3.out (fun b q => q.2)).wide (fun b q => ⟨Nat.le_trans XW1.out.base q.1, Nat.lt_of_lt_of_le q.2 B3.out.size, fun e => absurd (XW1.out.pr.lt b e).2 (Nat.not_lt.2 q.1)⟩)⟩)
                  have KB5 : Hid (Blk w5 wr.heap.size 58 #[.string x.1, .slice AL x.2.length cL]) := Lib.hid (KB3.out.grown hg (fun e => absurd (HVl.out _ e.symm) (Nat.lt_irrefl _)))
                  have K5 := Lib.hid (HS2.out _ KB5.out)
                  obtain ⟨A5, c5, rfl⟩ := row_slice ho
                  clear ho hg hv hcs1 hcs2 hcs3
                  refine hK.out _ _ K5.out (fun h9 => ?_)
                  clear hK K'
                  try simp only [Act.put, List.setIfInBounds_toArray, List.set_cons_zero, List.set_cons_succ]
                  refine wpAnyH_take (i := 10) (oi := ⟨some 63, _, _, _, _, _⟩) (v := ?_) rfl (by kernel_rfl) (by kernel_rfl) (by kernel_rfl) (fun _ _ _ h => h) (Or.inl ⟨by rfl, ?_⟩) h9 ?_
                  rotate_left
                  · intro w hSw
                    try dsimp only at hSw
                    go_simp
                    try with_reducible rfl
                  try simp only [Act.put, List.setIfInBounds_toArray, List.set_cons_zero, List.set_cons_succ]
                  refine wpAnyH_ready (rs := [11]) (by kernel_rfl) (by simp) ?_
                  refine (AllReadyH.cons (o := ⟨none, _, _, _, _, _⟩) rfl (fun K' hK => ?_) AllReadyH.nil)
                  have t0 := X5.out.box.cell 2
                  have t1 := X5.out.box.frozen 2
                  have t2 := X5.out.box.lt
                  simp at t0
                  have K6 := Lib.hid (HS2.out _ (KB5.out.far (p := ⟨w1.heap.size, 2, none⟩) (Nat.ne_of_gt HGt.out) (.slice A5 (k3 + 1) c5)))
                  go_simp
                  refine hK.out _ _ K6.out (fun h10 => ?_)
                  clear hK K'
                  try simp only [Act.put, List.setIfInBounds_toArray, List.set_cons_zero, List.set_cons_succ]
                  clear t0 t1 t2
                  refine wpAnyH_done (by kernel_rfl) ?_ _
                  have X6 := Lib.hid (X5.out.putP)
                  obtain ⟨w6, hw6⟩ : ∃ x, w5.setCell ⟨w1.heap.size, 2, none⟩ (.slice A5 (k3 + 1) c5) = x := ⟨_, rfl⟩
                  rw [hw6] at X6 ⊢
                  clear hw6
                  go_wp2_with fail
                  go_roundw
                  case rel => exact ⟨k3 + 1, .slice A5 (k3 + 1) c5, by go_num, hlt3, X6.out⟩
                  case measure => simp [RowKit.intOf]; omega
                · have B3 : Hid (Below w2.heap.size w2 (w2.alloc (.cells #[.string x.1, .slice A2 x.2.length c2] 47))) := Lib.hid ((Below.refl _ _).alloc (Nat.le_refl _) _)
                  have X3 := Lib.hid (Xw2.out.below B3.out)
                  have KB3 := Lib.hid (KB2.out.below B3.out KB2.out.lt)
                  have K3 := Lib.hid (HS2.out _ KB3.out)
                  have N3 := Lib.hid (Blk.new w2 47 #[.string x.1, .slice A2 x.2.length c2])
                  go_simp
                  refine hK.out _ _ K3.out (fun h3 => ?_)
                  clear hK K'
                  try simp only [Act.put, List.setIfInBounds_toArray, List.set_cons_zero, List.set_cons_succ]
                  refine wpAnyH_ready (rs := [1]) (by kernel_rfl) (by simp) ?_
                  refine (AllReadyH.cons (o := ⟨some 54, _, _, _, _, _⟩) rfl (fun K' hK => ?_) AllReadyH.nil)
                  have tf : (w2.alloc (.cells #[.string x.1, .slice A2 x.2.length c2] 47)).cell? ⟨w1.heap.size, 2, none⟩ = some z := X3.out.box.cell 2
                  go_simp
                  refine hK.out _ _ K3.out (fun h4 => ?_)
                  clear hK K'
                  try simp only [Act.put, List.setIfInBounds_toArray, List.set_cons_zero, List.set_cons_succ]
                  clear tf
                  refine wpAnyH_ready (rs := [9]) (by kernel_rfl) (by simp) ?_
                  refine (AllReadyH.cons (o := ⟨some 62, _, _, _, _, _⟩) rfl (fun K' hK => ?_) AllReadyH.nil)
                  obtain ⟨css, hcs1, hcs2, hcs3⟩ := X3.out.pr
                  rw [HTl.out] at hcs2
                  rw [if_pos (by rfl)]
                  refine wp_append_at (.tmp 54) (.tmp 61) 32 rfl (w1.heap.size + 1) 47 i2 (.agg #[.string ⟨#[]⟩, .slice none 0 0]) 2 40 Tryd.underlying32 HI2.out.1 HI2.out.2.1 HI2.out.2.2.1 HI2.out.2.2.2 rfl (by decide) z k3 css.flatten rfl hcs2 ⟨w2.heap.size, 0, none⟩ 1 1 [.string x.1, .slice A2 x.2.length c2] rfl rfl (news_two N3.out) (one_two _ _ _ _) (by unfold maxLen; omega) (by have := HLim3.out; omega) X3.out.base ?_
                  intro v5 w5 ho hg hv
                  have X5 := Lib.hid (X3.out.moreP HX.out hcs1 hcs3 hcs2 ho hg hv ⟨rfl, _, rfl, (HL2.out.below B3.out (fun b q => q.2)).wide (fun b q => ⟨Nat.le_trans XW1.out.base q.1, Nat.lt_of_lt_of_le q.2 B3.out.size, fun e => absurd (XW1.out.pr.lt b e).2 (Nat.not_lt.2 q.1)⟩)⟩)
                  have KB5 : Hid (Blk w5 wr.heap.size 58 #[.string x.1, .slice AL x.2.length cL]) := Lib.hid (KB3.out.grown hg (fun e => absurd (HVl.out _ e.symm) (Nat.lt_irrefl _)))
                  have K5 := Lib.hid (HS2.out _ KB5.out)
                  obtain ⟨A5, c5, rfl⟩ := row_slice ho
                  clear ho hg hv hcs1 hcs2 hcs3
                  refine hK.out _ _ K5.out (fun h9 => ?_)
                  clear hK K'
                  try simp only [Act.put, List.setIfInBounds_toArray, List.set_cons_zero, List.set_cons_succ]
                  refine wpAnyH_take (i := 10) (oi := ⟨some 63, _, _, _, _, _⟩) (v := ?_) rfl (by kernel_rfl) (by kernel_rfl) (by kernel_rfl) (fun _ _ _ h => h) (Or.inl ⟨by rfl, ?_⟩) h9 ?_
                  rotate_left
                  · intro w hSw
                    try dsimp only at hSw
                    go_simp
                    try with_reducible rfl
                  try simp only [Act.put, List.setIfInBounds_toArray, List.set_cons_zero, List.set_cons_succ]
                  refine wpAnyH_ready (rs := [11]) (by kernel_rfl) (by simp) ?_
                  refine (AllReadyH.cons (o := ⟨none, _, _, _, _, _⟩) rfl (fun K' hK => ?_) AllReadyH.nil)
                  have t0 := X5.out.box.cell 2
                  have t1 := X5.out.box.frozen 2
                  have t2 := X5.out.box.lt
                  simp at t0
                  have K6 := Lib.hid (HS2.out _ (KB5.out.far (p := ⟨w1.heap.size, 2, none⟩) (Nat.ne_of_gt HGt.out) (.slice A5 (k3 + 1) c5)))
                  go_simp
                  refine hK.out _ _ K6.out (fun h10 => ?_)
                  clear hK K'
                  try simp only [Act.put, List.setIfInBounds_toArray, List.set_cons_zero, List.set_cons_succ]
                  clear t0 t1 t2
                  refine wpAnyH_done (by kernel_rfl) ?_ _
                  have X6 := Lib.hid (X5.out.putP)
                  obtain ⟨w6, hw6⟩ : ∃ x, w5.setCell ⟨w1.heap.size, 2, none⟩ (.slice A5 (k3 + 1) c5) = x := ⟨_, rfl⟩
                  rw [hw6] at X6 ⊢
                  clear hw6
                  go_wp2_with fail
                  go_roundw
                  case rel => exact ⟨k3 + 1, .slice A5 (k3 + 1) c5, by go_num, hlt3, X6.out⟩
                  case measure => simp [RowKit.intOf]; omega
            · have he : k3 = m3 := by omega
              subst he
              have hT : p.procs.take k3 = p.procs := by rw [← HN3.out, List.take_length]
              rw [hT] at HPI
              clear hT
              have b2 := HG2.out _ HPI.out.low
              obtain ⟨A7, c7, rfl⟩ : ∃ A c, v = .slice A p.enums.length c := by
                obtain ⟨A, c, e, -⟩ := HPI.out.en.row
                exact ⟨_, _, e⟩
              obtain ⟨A8, c8, rfl⟩ : ∃ A c, u = .slice A p.vars.length c := by
                obtain ⟨A, c, e, -⟩ := HPI.out.va.row
                exact ⟨_, _, e⟩
              obtain ⟨A9, c9, rfl⟩ : ∃ A c, z = .slice A p.procs.length c := by
                obtain ⟨A, c, e, -⟩ := HPI.out.pr.row
                exact ⟨_, _, e⟩
              have HE := Lib.hid (own_en (g := W.heap.size + 1) HPI.out.en (HBW.out _ HPI.out.low) (by rw [HN1.out]; exact HLim1.out) (Nat.le_succ _) (Nat.lt_succ_of_lt (by have := HS0.out; have := E1.out.size; omega)))
              have HV := Lib.hid (own_va (g := W.heap.size + 1) HPI.out.va (by rw [HN2.out]; exact HLim2.out) (Nat.lt_succ_of_lt (by have := HS0.out; have := E1.out.size; omega)))
              have HR := Lib.hid (own_pr (g := W.heap.size + 1) HPI.out.pr (by rw [HN3.out]; exact HLim3.out) (Nat.lt_succ_of_lt (by have := HS0.out; have := E1.out.size; omega)))
              have HMn : Hid (StR (fun b => b < wr.heap.size ∧ b ≠ W.heap.size + 1) n wr p.main (.slice M4 p.main.length d4)) := Lib.hid ((HYM.out.below HPI.out.low (fun b q => q.2)).wide (fun b q => ⟨Nat.lt_of_lt_of_le q.2 HPI.out.low.size, by have := q.1; have := HS0.out; omega⟩))
              have o0 := HPI.out.box.cell 0
              have o1 := HPI.out.box.cell 1
              have o2 := HPI.out.box.cell 2
              have o3 := HPI.out.box.cell 3
              have HK9 := Lib.hid ((((b2.set_ 0 (.slice A7 p.enums.length c7)).set_ 1 (.slice A8 p.vars.length c8)).set_ 2 (.slice A9 p.procs.length c9)).set_ 3 (.slice M4 p.main.length d4))
              have f0 := b2.frozen 0
              have f1 := b2.frozen 1
              have f2 := b2.frozen 2
              have f3 := b2.frozen 3
              have fl := b2.lt
              have r0 := b2.cell 0
              have r1 := b2.cell 1
              have r2 := b2.cell 2
              have r3 := b2.cell 3
              simp at o0 o1 o2 o3 r0 r1 r2 r3
              clear b2 hk hk2 hk3 hlt hlt2 hlt3
              go_wp2_with fail
              have q0 := HK9.out.cell 0
              have q1 := HK9.out.cell 1
              have q2 := HK9.out.cell 2
              have q3 := HK9.out.cell 3
              simp at q0 q1 q2 q3
              have F := four_kept (w := wr) (g := W.heap.size + 1) (.slice A7 p.enums.length c7) (.slice A8 p.vars.length c8) (.slice A9 p.procs.length c9) (.slice M4 p.main.length d4) 0 1 2 3
              refine bodyPost_ret (v := pgV (.slice A7 p.enums.length c7) (.slice A8 p.vars.length c8) (.slice A9 p.procs.length c9) (.slice M4 p.main.length d4)) (by simp [results, Tryd.results8, go_sem, q0, q1, q2, q3]) rfl ⟨_, _, _, _, rfl, ⟨?_, ?_, ?_, ?_⟩, ?_⟩
              · exact (HE.out.kept (fun b q => F.1 b q.2)).wide (fun b q => by rw [F.2]; exact q.1)
              · exact (HV.out.kept (fun b q => F.1 b q.2)).wide (fun b q => by rw [F.2]; exact q.1)
              · exact (HR.out.kept (fun b q => F.1 b q.2)).wide (fun b q => by rw [F.2]; exact q.1)
              · exact (HMn.out.kept (fun b q => F.1 b q.2)).wide (fun b q => by rw [F.2]; exact q.1)
              · exact ((((HBW.out _ HPI.out.low).setCell (p := ⟨W.heap.size + 1, 0, none⟩) (Nat.le_succ _) _).setCell (p := ⟨W.heap.size + 1, 1, none⟩) (Nat.le_succ _) _).setCell (p := ⟨W.heap.size + 1, 2, none⟩) (Nat.le_succ _) _).setCell (p := ⟨W.heap.size + 1, 3, none⟩) (Nat.le_succ _) _
end Go.Proofs.YtklfcjimgnnlfaaDoor
