/- The contract of Set: any zone, any variable, any span. -/
import Derived.Test.YtlddelnbjihhgaaGreatDoorCopy
import Derived.Test.YtlddelnbjihhgaaGreatDoorSpSets
namespace Go.Proofs.YtlddelnbjihhgaaGreatDoor
open Go.RowKit
attribute [local go_sem ↓] Go.wp_at_zero Go.wp_at_succ

/-- The boxes of the zone, of the span, of the result. -/
def St (w W : World) (a a' l h b b' : Value) : Prop := Duo W w.heap.size 32 a a' ∧ Duo W (w.heap.size + 1) 36 l h ∧ Duo W (w.heap.size + 1 + 1) 32 b b' ∧ Below w.heap.size w W
theorem St.below {w W W1 : World} {a a' l h b b' : Value} (x : St w W a a' l h b b') (hb : Below W.heap.size W W1) : St w W1 a a' l h b b' := ⟨x.1.below hb, x.2.1.below hb, x.2.2.1.below hb, x.2.2.2.trans (hb.mono x.2.2.2.size)⟩
theorem St.drew {w W : World} {a a' l h b b' : Value} (x : St w W a a' l h b b') : St w W.drew a a' l h b b' := ⟨x.1, x.2.1, x.2.2.1, x.2.2.2.drew⟩
theorem St.put {w W : World} {a a' l h b b' : Value} (x : St w W a a' l h b b') (u u' : Value) : St w ((W.setCell ⟨w.heap.size, 0, none⟩ u).setCell ⟨w.heap.size, 1, none⟩ u') u u' l h b b' :=
  ⟨(x.1.set0 u).set1 u', (x.2.1.other (by simp) _).other (by simp) _, (x.2.2.1.other (by simp <;> omega) _).other (by simp <;> omega) _, (x.2.2.2.setCell (p := ⟨w.heap.size, 0, none⟩) (by simp) _).setCell (p := ⟨w.heap.size, 1, none⟩) (by simp) _⟩
theorem St.puts {w W : World} {a a' l h b b' : Value} (x : St w W a a' l h b b') (u u' : Value) : St w ((W.setCell ⟨w.heap.size + 1, 0, none⟩ u).setCell ⟨w.heap.size + 1, 1, none⟩ u') a a' u u' b b' :=
  ⟨(x.1.other (by simp) _).other (by simp) _, (x.2.1.set0 u).set1 u', (x.2.2.1.other (by simp <;> omega) _).other (by simp <;> omega) _, (x.2.2.2.setCell (p := ⟨w.heap.size + 1, 0, none⟩) (by simp) _).setCell (p := ⟨w.heap.size + 1, 1, none⟩) (by simp) _⟩
theorem St.kept {w W W1 : World} {a a' l h b b' : Value} {g : Nat} (x : St w W a a' l h b b') (hg : W.grownBy W1 (some g)) (h1 : w.heap.size + 1 + 1 < g) : St w W1 a a' l h b b' :=
  ⟨x.1.kept hg (by simp; omega), x.2.1.kept hg (by simp; omega), x.2.2.1.kept hg (by simp; omega), x.2.2.2.grown hg x.2.2.2.size (fun r e => by cases e; omega)⟩
theorem st_new (w : World) (a a' l h b b' : Value) : St w (((w.alloc (.cells #[a, a'] 32)).alloc (.cells #[l, h] 36)).alloc (.cells #[b, b'] 32)) a a' l h b b' := by
  have h1 := Duo.new (w.alloc (.cells #[a, a'] 32)) 36 l h
  have h2 := Duo.new ((w.alloc (.cells #[a, a'] 32)).alloc (.cells #[l, h] 36)) 32 b b'
  simp only [World.size_alloc] at h1 h2
  exact ⟨((Duo.new w _ _ _).alloc _).alloc _, h1.alloc _, h2, (((Below.refl _ w).alloc (Nat.le_refl _) _).alloc (by simp) _).alloc (by simp <;> omega) _⟩
/-- What Set makes of what Forget made. -/
def setM (F : Mat) (i : Nat) (L H : Int) : Mat := grd (grd F i 0 H) 0 i (-L)
def setO (m : Nat) (R : Option Mat) (i l h : Int) : Option Mat :=
  match R with
  | none => none
  | some C => if namedB ((m : Int) - 1) i = true then setR m (setM (lev (fgt C i.toNat) m) i.toNat (meetL l h (-1152921504606846976) 1152921504606846976) (meetH l h (-1152921504606846976) 1152921504606846976)) else some C
theorem meet_bd (a b c d : Int) : -1152921504606846976 ≤ meetL a b c d ∧ meetL a b c d ≤ 1152921504606846976 ∧ -1152921504606846976 ≤ meetH a b c d ∧ meetH a b c d ≤ 1152921504606846976 := by
  have h1 := tk_bd a b
  have h2 := tk_bd c d
  rcases meet_cases a b c d with ⟨h, e1, e2⟩ | ⟨h, e1, e2⟩ <;> rw [e1, e2] <;> omega
/-- Behind the span's Meet. -/
def Sm (w : World) (base m : Nat) (F : Mat) (L H : Int) (g c : Nat) (wx : World) : Prop :=
  St w wx (.int .i64 ((m : Int) - 1)) (.slice (some ⟨g, 0, none⟩) (m * m) c) (.int .i64 L) (.int .i64 H) (.int .i64 0) (.slice none 0 0) ∧ wx.ownsRow base 3 1 (.slice (some ⟨g, 0, none⟩) (m * m) c) (m * m) ((flatL m F).map (Value.int .i64))
theorem own_other {W : World} {base g k c : Nat} {xs : List Value} (o : W.ownsRow base 3 1 (.slice (some ⟨g, 0, none⟩) k c) k xs) {a : Addr} (hne : g ≠ a.block) (u : Value) : (W.setCell a u).ownsRow base 3 1 (.slice (some ⟨g, 0, none⟩) k c) k xs :=
  o.kept (duo_grown_setCell W a u) (.inr (by simp [Value.ownBlock]; omega))

set_option maxRecDepth 100000 in
set_option maxHeartbeats 3200000 in
theorem set_none {w : World} {N : Int} {Az : Option Addr} {lz cz m : Nat} {i l h : Int} 
    (K : ∀ W, Below w.heap.size w W → Calls Tryz.prog 8 #[zoneV N Az lz cz, .int .i64 i] W (RetC W m none)) :
    Calls Tryz.prog 10 #[zoneV N Az lz cz, .int .i64 i, .agg #[.int .i64 l, .int .i64 h]] w (RetC w m none) := by
  have HT := Lib.hid (st_new w (.int .i64 N) (.slice Az lz cz) (.int .i64 l) (.int .i64 h) (.int .i64 0) (.slice none 0 0))
  have HL := Lib.hid HT.out.2.2.2
  have HK := Lib.hid K
  clear K
  have e0 : rlen m (none : Option Mat) = 0 := rfl
  go_enter Tryz.func10, Tryz.ntmps10
  go_wp2_with (first
    | (go_at_call 8; ((with_reducible refine (HK.out _ HL.out).mono ?_); rintro e w1 ⟨A, c1, rfl, hz1, hb1⟩); have hF1 : St w w1 _ _ _ _ _ _ := St.below HT.out hb1; have y0 := hF1.1.cell0; have y1 := hF1.1.cell1; have y4 := hF1.1.frozen0; have y5 := hF1.1.frozen1)
    | (go_at_call 35; ((with_reducible refine (none_any _ _ _ _ _).mono ?_); rintro e w3 ⟨rfl, hb3⟩); have hF2 := (hF1.put (.int .i64 ((m : Int) - 1)) (.slice A 0 c1)).below hb3; have hZ2 := ((hz1.setCell (a := ⟨w.heap.size, 0, none⟩) (by simp <;> omega) (.int .i64 ((m : Int) - 1))).setCell (a := ⟨w.heap.size, 1, none⟩) (by simp <;> omega) (.slice A 0 c1)).below hb3; have p0 := hF2.1.cell0; have p1 := hF2.1.cell1; have p2 := hF2.2.2.1.cell0; have p3 := hF2.2.2.1.cell1; have p4 := hF2.2.2.1.frozen0; have p5 := hF2.2.2.1.frozen1))
  have hD := ((hF2.2.2.1.set0 (.int .i64 ((m : Int) - 1))).set1 (.slice A 0 c1))
  exact post_cell (rb := w.heap.size + 1 + 1) Tryz.results10 rfl rfl hD ⟨A, c1, rfl, ((hZ2.lower (by simp <;> omega)).setBox hF2.2.2.1 _).setBox (hF2.2.2.1.set0 _) _, (hF2.2.2.2.setCell (p := ⟨w.heap.size + 1 + 1, 0, none⟩) (by simp <;> omega) _).setCell (p := ⟨w.heap.size + 1 + 1, 1, none⟩) (by simp <;> omega) _⟩

set_option maxRecDepth 100000 in
set_option maxHeartbeats 3200000 in
theorem set_out {w : World} {N : Int} {Az : Option Addr} {lz cz m : Nat} {i l h : Int} {C : Mat} (h0 : 0 < m) (k1 : namedB ((m : Int) - 1) i = false)
    (K : ∀ W, Below w.heap.size w W → Calls Tryz.prog 8 #[zoneV N Az lz cz, .int .i64 i] W (RetC W m (some C))) :
    Calls Tryz.prog 10 #[zoneV N Az lz cz, .int .i64 i, .agg #[.int .i64 l, .int .i64 h]] w (RetC w m (some C)) := by
  have HT := Lib.hid (st_new w (.int .i64 N) (.slice Az lz cz) (.int .i64 l) (.int .i64 h) (.int .i64 0) (.slice none 0 0))
  have HL := Lib.hid HT.out.2.2.2
  have HK := Lib.hid K
  clear K
  have e1 : rlen m (some C) = m * m := rfl
  have e2 := sq_pos h0
  go_enter Tryz.func10, Tryz.ntmps10
  go_wp2_with (first
    | (go_at_call 8; ((with_reducible refine (HK.out _ HL.out).mono ?_); rintro e w1 ⟨A, c1, rfl, hz1, hb1⟩); have hF1 : St w w1 _ _ _ _ _ _ := St.below HT.out hb1; have y0 := hF1.1.cell0; have y1 := hF1.1.cell1; have y4 := hF1.1.frozen0; have y5 := hF1.1.frozen1)
    | (go_at_call 35; ((with_reducible refine (none_any _ _ _ _ _).mono ?_); rintro e w3 ⟨rfl, hb3⟩); have hF2 := (hF1.put (.int .i64 ((m : Int) - 1)) (.slice A (m * m) c1)).below hb3; have hZ2 := ((hz1.setCell (a := ⟨w.heap.size, 0, none⟩) (by simp <;> omega) (.int .i64 ((m : Int) - 1))).setCell (a := ⟨w.heap.size, 1, none⟩) (by simp <;> omega) (.slice A (m * m) c1)).below hb3; have p0 := hF2.1.cell0; have p1 := hF2.1.cell1; have p2 := hF2.2.2.1.cell0; have p3 := hF2.2.2.1.cell1; have p4 := hF2.2.2.1.frozen0; have p5 := hF2.2.2.1.frozen1)
    | (go_at_call 36; ((with_reducible refine (named_any _ _ _ _ _ _).mono ?_); rintro e w4 ⟨rfl, hb4⟩); have hF3 := hF2.below hb4; have hZ3 := hZ2.below hb4; have q0 := hF3.1.cell0; have q1 := hF3.1.cell1; have q2 := hF3.2.2.1.cell0; have q3 := hF3.2.2.1.cell1; have q4 := hF3.2.2.1.frozen0; have q5 := hF3.2.2.1.frozen1))
  have hD := ((hF3.2.2.1.set0 (.int .i64 ((m : Int) - 1))).set1 (.slice A (m * m) c1))
  exact post_cell (rb := w.heap.size + 1 + 1) Tryz.results10 rfl rfl hD ⟨A, c1, rfl, ((hZ3.lower (by simp <;> omega)).setBox hF3.2.2.1 _).setBox (hF3.2.2.1.set0 _) _, (hF3.2.2.2.setCell (p := ⟨w.heap.size + 1 + 1, 0, none⟩) (by simp <;> omega) _).setCell (p := ⟨w.heap.size + 1 + 1, 1, none⟩) (by simp <;> omega) _⟩

set_option maxRecDepth 100000 in
set_option maxHeartbeats 3200000 in
theorem set_in {w : World} {N : Int} {Az : Option Addr} {lz cz m : Nat} {i l h : Int} {F : Mat} (h0 : 0 < m) (h7 : m ≤ 7) (k1 : namedB ((m : Int) - 1) i = true)
    (K : ∀ W, Below w.heap.size w W → Calls Tryz.prog 8 #[zoneV N Az lz cz, .int .i64 i] W (RetC W m (some F))) :
    Calls Tryz.prog 10 #[zoneV N Az lz cz, .int .i64 i, .agg #[.int .i64 l, .int .i64 h]] w (RetC w m (setR m (setM F i.toNat (meetL l h (-1152921504606846976) 1152921504606846976) (meetH l h (-1152921504606846976) 1152921504606846976)))) := by
  obtain ⟨i0, rfl, hi1, him⟩ := named_nat k1
  rw [Int.toNat_natCast]
  have HT := Lib.hid (st_new w (.int .i64 N) (.slice Az lz cz) (.int .i64 l) (.int .i64 h) (.int .i64 0) (.slice none 0 0))
  have HL := Lib.hid HT.out.2.2.2
  have HK := Lib.hid K
  clear K
  have e1 : rlen m (some F) = m * m := rfl
  have e2 := sq_pos h0
  have HI := Lib.hid (And.intro hi1 him)
  have HMe := Lib.hid (fun W => Sp.meet_any l h (-1152921504606846976) 1152921504606846976 W)
  have HMb := Lib.hid (meet_bd l h (-1152921504606846976) 1152921504606846976)
  obtain ⟨L, hLe⟩ : ∃ L, meetL l h (-1152921504606846976) 1152921504606846976 = L := ⟨_, rfl⟩
  obtain ⟨H, hHe⟩ : ∃ H, meetH l h (-1152921504606846976) 1152921504606846976 = H := ⟨_, rfl⟩
  rw [hLe, hHe] at HMe HMb ⊢
  clear hLe hHe hi1 him
  go_enter Tryz.func10, Tryz.ntmps10
  go_upto_region 4 with (first
    | (go_at_call 8; ((with_reducible refine (HK.out _ HL.out).mono ?_); rintro e w1 ⟨A, c1, rfl, hz1, hb1⟩); have hF1 : St w w1 _ _ _ _ _ _ := St.below HT.out hb1; have y0 := hF1.1.cell0; have y1 := hF1.1.cell1; have y4 := hF1.1.frozen0; have y5 := hF1.1.frozen1)
    | (go_at_call 35; ((with_reducible refine (none_any _ _ _ _ _).mono ?_); rintro e w3 ⟨rfl, hb3⟩); have hF2 := (hF1.put (.int .i64 ((m : Int) - 1)) (.slice A (m * m) c1)).below hb3; have hZ2 := ((hz1.setCell (a := ⟨w.heap.size, 0, none⟩) (by simp <;> omega) (.int .i64 ((m : Int) - 1))).setCell (a := ⟨w.heap.size, 1, none⟩) (by simp <;> omega) (.slice A (m * m) c1)).below hb3; have p0 := hF2.1.cell0; have p1 := hF2.1.cell1; have p2 := hF2.2.2.1.cell0; have p3 := hF2.2.2.1.cell1; have p4 := hF2.2.2.1.frozen0; have p5 := hF2.2.2.1.frozen1)
    | (go_at_call 36; ((with_reducible refine (named_any _ _ _ _ _ _).mono ?_); rintro e w4 ⟨rfl, hb4⟩); have hF3 := hF2.below hb4; have hZ3 := hZ2.below hb4; have q0 := hF3.1.cell0; have q1 := hF3.1.cell1; have q2 := hF3.2.2.1.cell0; have q3 := hF3.2.2.1.cell1; have q4 := hF3.2.2.1.frozen0; have q5 := hF3.2.2.1.frozen1))
  obtain ⟨g, rfl, hC, o3⟩ := zres_some hZ3
  have HC := Lib.hid hC
  have hgl := (o3.lt g rfl).1
  have hgs := hF1.2.2.1.lt
  have HF3 := Lib.hid hF3.drew
  have HO3 := Lib.hid (show World.ownsRow w4.drew _ 3 1 _ _ _ from o3)
  have HG := Lib.hid (show w.heap.size + 1 + 1 < g by simp at hgl; omega)
  have u0 := HF3.out.2.1.cell0
  have u1 := HF3.out.2.1.cell1
  have HLs := Lib.hid HF3.out.2.2.2
  clear p0 p1 p2 p3 p4 p5 q0 q1 q2 q3 q4 q5 y0 y1 y4 y5 hZ2 hZ3 hF1 hF2 hF3 hb1 hb3 hb4 hz1 o3 hC hgl hgs
  go_cut [] (fun wx => Sm w w.heap.size m F L H g c1 wx)
  case first =>
    go_region_with (first
      | (go_at_call 42; ((with_reducible refine (Sp.full_any _).mono ?_); rintro e w6 ⟨rfl, hb6⟩); have H6 := Lib.hid (HF3.out.below hb6); have O6 := Lib.hid (own_kept_below HO3.out hb6); have t0 := H6.out.2.1.cell0; have t1 := H6.out.2.1.cell1; clear hb6)
      | (go_at_call 41; ((with_reducible refine (HMe.out _).mono ?_); rintro e w7 ⟨rfl, hb7⟩); have H7' := Lib.hid (H6.out.below hb7); have O7 := Lib.hid (own_kept_below O6.out hb7); have s0 := H7'.out.2.1.cell0; have s1 := H7'.out.2.1.cell1; have s2 := H7'.out.2.1.frozen0; have s3 := H7'.out.2.1.frozen1; clear hb7))
    all_goals go_wp2_with fail
    all_goals go_meet
    all_goals exact ⟨H7'.out.puts _ _, own_lower (own_other (own_other O7.out (by have := HG.out; simp; omega) _) (by have := HG.out; simp; omega) _) HT.out.2.2.2.size⟩
  case rest =>
    clear u0 u1 HF3 HO3
    obtain ⟨hS, o⟩ := hcut
    have HS := Lib.hid hS
    have HO := Lib.hid o
    have k0 := hS.1.cell0
    have k1' := hS.1.cell1
    have k2 := hS.2.1.cell0
    have k3 := hS.2.1.cell1
    have hI := HI.out
    have hw : IntKind.i64.wrap (-L) = -L := IntWalk.i64_in _ (by have := HMb.out; omega)
    clear hS o
    go_wp2_with fail
    refine (lower_any m i0 0 h7 hI.2 h0 g c1 _ (flatL m F) (F i0 0) H _ HO.out (flat_at F hI.2 h0)).mono ?_
    rintro e w7 ⟨⟨v7, rfl⟩, ho7, hg7⟩
    rw [flat_set F h0] at ho7
    have HS7 := Lib.hid (HS.out.kept hg7 HG.out)
    have HO7 := Lib.hid (show w7.ownsRow _ 3 1 _ _ ((flatL m (grd F i0 0 H)).map (Value.int .i64)) from ho7)
    clear ho7 hg7 k0 k1' k2 k3
    have k0 := HS7.out.1.cell0
    have k1' := HS7.out.1.cell1
    have k2 := HS7.out.2.1.cell0
    have k3 := HS7.out.2.1.cell1
    go_wp2_with fail
    refine (lower_any m 0 i0 h7 h0 hI.2 g c1 _ (flatL m (grd F i0 0 H)) (grd F i0 0 H 0 i0) (-L) _ HO7.out (flat_at (grd F i0 0 H) h0 hI.2)).mono ?_
    rintro e w8 ⟨⟨v8, rfl⟩, ho8, hg8⟩
    rw [flat_set (grd F i0 0 H) hI.2] at ho8
    have HS8 := Lib.hid (HS7.out.kept hg8 HG.out)
    have HO8 := Lib.hid (show w8.ownsRow _ 3 1 _ _ ((flatL m (setM F i0 L H)).map (Value.int .i64)) from ho8)
    clear ho8 hg8 k0 k1' k2 k3
    have k0 := HS8.out.1.cell0
    have k1' := HS8.out.1.cell1
    go_wp2_with fail
    refine (settle_any m h7 h0 (setM F i0 L H) g c1 _ w8 (fun a b ha hb => by
      have h1 := HC.out.bd ha hb
      have h3 := HMb.out
      have h4 : grd F i0 0 H a b = F a b ∨ grd F i0 0 H a b = min (F i0 0) H := by unfold grd upd; split <;> omega
      have h5 : grd F i0 0 H 0 i0 = F 0 i0 ∨ grd F i0 0 H 0 i0 = min (F i0 0) H := by unfold grd upd; split <;> omega
      have h6 : setM F i0 L H a b = grd F i0 0 H a b ∨ setM F i0 L H a b = min (grd F i0 0 H 0 i0) (-L) := by
        show upd (grd F i0 0 H) 0 i0 _ a b = _ ∨ upd (grd F i0 0 H) 0 i0 _ a b = _
        unfold upd
        split
        · exact .inr rfl
        · exact .inl rfl
      have h7 := HC.out.bd hI.2 h0
      have h8 := HC.out.bd h0 hI.2
      omega) HO8.out).mono ?_
    rintro e w9 (⟨ha, rfl, ho9, hg9⟩ | ⟨hna, rfl, hg9⟩)
    · have hS9 := HS8.out.kept hg9 HG.out
      have hD3 := hS9.2.2.1
      have d0 := hD3.cell0
      have d1 := hD3.cell1
      have f0 := hD3.frozen0
      have f1 := hD3.frozen1
      have HO9 := Lib.hid ho9
      have HB3 := Lib.hid hS9.2.2.2
      clear ho9 hS9 hg9
      go_wp2_with fail
      refine post_cell (rb := w.heap.size + 1 + 1) Tryz.results10 rfl rfl ((hD3.set0 _).set1 _) ?_
      rw [setR_yes ha]
      refine ⟨_, c1, rfl, ⟨lev_closed ha, g, c1, rfl, ?_⟩, (HB3.out.setCell (p := ⟨w.heap.size + 1 + 1, 0, none⟩) (by simp <;> omega) _).setCell (p := ⟨w.heap.size + 1 + 1, 1, none⟩) (by simp <;> omega) _⟩
      exact own_other (own_other HO9.out (by have := HG.out; simp; omega) _) (by have := HG.out; simp; omega) _
    · have hS9 := HS8.out.kept hg9 HG.out
      have hD3 := hS9.2.2.1
      have d0 := hD3.cell0
      have d1 := hD3.cell1
      have f0 := hD3.frozen0
      have f1 := hD3.frozen1
      have HB3 := Lib.hid hS9.2.2.2
      clear hS9 hg9
      go_wp2_with fail
      refine post_cell (rb := w.heap.size + 1 + 1) Tryz.results10 rfl rfl ((hD3.set0 _).set1 _) ?_
      rw [setR_no hna]
      exact ⟨none, 0, rfl, rfl, (HB3.out.setCell (p := ⟨w.heap.size + 1 + 1, 0, none⟩) (by simp <;> omega) _).setCell (p := ⟨w.heap.size + 1 + 1, 1, none⟩) (by simp <;> omega) _⟩

theorem set_any {w : World} {N : Int} {Az : Option Addr} {lz cz m : Nat} {R : Option Mat} {i l h : Int} (h0 : 0 < m) (h7 : m ≤ 7)
    (K : ∀ W, Below w.heap.size w W → Calls Tryz.prog 34 #[zoneV N Az lz cz] W (RetC W m R)) (hR : ∀ C, R = some C → Closed m C) :
    Calls Tryz.prog 10 #[zoneV N Az lz cz, .int .i64 i, .agg #[.int .i64 l, .int .i64 h]] w (RetC w m (setO m R i l h)) := by
  have KF : ∀ W, Below w.heap.size w W → Calls Tryz.prog 8 #[zoneV N Az lz cz, .int .i64 i] W (RetC W m (fgO m R i)) := fun W hb => forget_any h0 h7 fun W1 hb1 => K W1 (hb.trans (hb1.mono hb.size))
  cases R with
  | none => exact set_none KF
  | some C =>
    unfold setO
    unfold fgO at KF
    cases k1 : namedB ((m : Int) - 1) i
    · rw [k1] at KF
      exact set_out h0 k1 KF
    · have e : (if namedB ((m : Int) - 1) i = true then setR m (fgt C i.toNat) else some C) = some (lev (fgt C i.toNat) m) := by rw [if_pos k1, setR_yes (fgt_alive (hR C rfl) h0 _)]
      have KG : ∀ W, Below w.heap.size w W → Calls Tryz.prog 8 #[zoneV N Az lz cz, .int .i64 i] W (RetC W m (some (lev (fgt C i.toNat) m))) := fun W hb => by
        have := KF W hb
        rw [← e]
        exact this
      exact set_in h0 h7 k1 KG
end Go.Proofs.YtlddelnbjihhgaaGreatDoor
