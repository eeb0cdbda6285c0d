/- The contracts of the document's Close and Clean, of any zone. -/
import Derived.Test.YtcbkffpmclainaaDoorRClose
namespace Go.Proofs.YtcbkffpmclainaaDoor
open Go.RowKit
attribute [local go_sem ↓] Go.wp_at_zero Go.wp_at_succ

section
variable {w : World} {v : Value} {N : Int} {len : Nat} {f : Nat → Int}
theorem zr_not {N : Int} {len : Nat} {f : Nat → Int} (h : mayB N = false ∨ (mayB N = true ∧ len ≠ zm N * zm N)) : zr N len f = none := by
  unfold zr
  rcases h with h | ⟨h, h2⟩
  · rw [h]; simp
  · rw [decide_eq_false h2]; simp
theorem rclose_z (h : ZArg w v N len f) : Calls Tryd.prog 14 #[v] w (RetC w (zm N) (zr N len f)) := by
  obtain ⟨A, cp, rfl, hlc, h100, hc⟩ := h
  by_cases hbad : mayB N = false ∨ (mayB N = true ∧ len ≠ zm N * zm N)
  · rw [zr_not hbad]
    exact rclose_bad hbad
  · have hm : mayB N = true := by
      cases e : mayB N
      · exact absurd (.inl e) hbad
      · rfl
    have hl : len = zm N * zm N := Classical.byContradiction fun e => hbad (.inr ⟨hm, e⟩)
    have hz := zm_may hm
    have hbd := zm_bd N
    subst hl
    obtain ⟨b, off, rfl, hbk, hcell⟩ := hc (Nat.mul_pos hbd.1 hbd.1)
    have key : ∀ (M : Int), ((zm N : Nat) : Int) - 1 = M → Calls Tryd.prog 14 #[zoneV M (some ⟨b, off, none⟩) (zm N * zm N) cp] w (RetC w (zm N) (zr N (zm N * zm N) f)) := fun M hM => by
      subst hM
      refine rclose_good hbd.1 hbd.2 hbk hcell hlc (fun ha => ?_) fun ha => ?_
      · unfold zr
        rw [hm, (aliveB_iff _ _).2 ha]
        simp
      · have e : aliveB (zm N) (nearM (zm N) f) = false := by
          cases e : aliveB (zm N) (nearM (zm N) f)
          · rfl
          · exact absurd ((aliveB_iff _ _).1 e) ha
        unfold zr
        rw [e]
        simp
    exact key N hz
/-- A right zone stays, where a box is written. -/
theorem zres_put {wr : World} {b base m : Nat} {R : Option Mat} {x y z : Value} (h : Duo wr b 24 x y) (hz : ZRes wr base m R z) (u v : Value) : ZRes ((wr.setCell ⟨b, 0, none⟩ u).setCell ⟨b, 1, none⟩ v) base m R z := by
  cases R with
  | none => exact hz
  | some C =>
    obtain ⟨hc, g, cap, e, ho⟩ := hz
    exact ⟨hc, g, cap, e, row_put h ho u v⟩
theorem rclean_z (h : ZArg w v N len f) : Calls Tryd.prog 19 #[v] w (RetC w (zm N) (zr N len f)) := by
  have hz := h
  obtain ⟨A, cp, rfl, hlc, h100, hc⟩ := h
  have hb := (zboxed w (.cells #[.int .i64 N, .slice A len cp] 24)).trans ((zboxed (w.alloc (.cells #[.int .i64 N, .slice A len cp] 24)) (.cells #[.int .i64 0, .slice none 0 0] 24)).mono (by simp))
  have k0 := (Duo.new w 24 (.int .i64 N) (.slice A len cp)).alloc (.cells #[.int .i64 0, .slice none 0 0] 24)
  have k1 := Duo.new (w.alloc (.cells #[.int .i64 N, .slice A len cp] 24)) 24 (.int .i64 0) (.slice none 0 0)
  rw [World.size_alloc] at k1
  obtain ⟨W2, hW2⟩ : ∃ W2, (w.alloc (.cells #[.int .i64 N, .slice A len cp] 24)).alloc (.cells #[.int .i64 0, .slice none 0 0] 24) = W2 := ⟨_, rfl⟩
  rw [hW2] at hb k0 k1
  have c0 := k0.cell0
  have c1 := k0.cell1
  have c2 := k0.lt
  have HCl := Lib.hid (rclose_z (hz.below hb))
  have HB := Lib.hid hb
  have HK := Lib.hid k1
  by_cases h0 : len = 0
  · subst h0
    have hno : zr N 0 f = none := by
      cases e : mayB N
      · exact zr_not (.inl e)
      · refine zr_not (.inr ⟨e, fun e2 => ?_⟩)
        have := Nat.mul_pos (zm_bd N).1 (zm_bd N).1
        omega
    rw [hno]
    have HBt : Hid (∀ W, Calls Tryd.prog 24 #[.int .i64 N] W (RetBot (((zm N : Nat) : Int) - 1) W)) := Lib.hid fun W => by
      have h := rbottom_any N W
      have e : botN N = ((zm N : Nat) : Int) - 1 := by
        unfold botN zm
        cases hm : mayB N
        · simp
        · have := (mayB_iff N).1 hm; simp; omega
      rw [e] at h
      exact h
    obtain ⟨M, hM⟩ : ∃ M : Int, ((zm N : Nat) : Int) - 1 = M := ⟨_, rfl⟩
    rw [hM] at HBt
    have HMM := Lib.hid hM
    clear hM hz hc hb k0 k1 hno
    go_enter Tryd.func19, Tryd.ntmps19
    go_wp2_with (go_at_call 24; ((with_reducible refine (HBt.out _).mono ?_); rintro e w6 ⟨rfl, hb6⟩); have H6 := Lib.hid (HK.out.below hb6); have HB6 := Lib.hid (HB.out.trans (hb6.mono HB.out.size)); have r0 := H6.out.cell0; have r1 := H6.out.cell1; have r2 := H6.out.frozen0; have r3 := H6.out.frozen1; have r4 := H6.out.lt; clear hb6)
    have hp := res_put H6.out HB6.out (by omega) (.int .i64 M) (.slice none 0 0)
    have y0 := hp.1.cell0
    have y1 := hp.1.cell1
    exact bodyPost_ret (v := zoneV M none 0 0) (by simp [results, Tryd.results19, go_sem, y0, y1]) rfl ⟨none, 0, by rw [HMM.out]; rfl, rfl, hp.2⟩
  · have hd : ((len : Int) == 0) = false := by simpa using h0
    obtain ⟨M, hM⟩ : ∃ M : Int, ((zm N : Nat) : Int) - 1 = M := ⟨_, rfl⟩
    have HMM := Lib.hid hM
    clear hM hz hc hb k0 k1
    go_enter Tryd.func19, Tryd.ntmps19
    go_wp2_with (go_at_call 14; ((with_reducible refine HCl.out.mono ?_); rintro e w6 ⟨A6, c6, rfl, hz6, hb6⟩); have H6 := Lib.hid (HK.out.below hb6); have HB6 := Lib.hid (HB.out.trans (hb6.mono HB.out.size)); have HZ6 := Lib.hid hz6; have r0 := H6.out.cell0; have r1 := H6.out.cell1; have r2 := H6.out.frozen0; have r3 := H6.out.frozen1; have r4 := H6.out.lt; clear hb6 hz6)
    have hp := res_put H6.out HB6.out (by omega) (.int .i64 (((zm N : Nat) : Int) - 1)) (.slice A6 (rlen (zm N) (zr N len f)) c6)
    have y0 := hp.1.cell0
    have y1 := hp.1.cell1
    have hzz := zres_put H6.out (HZ6.out.lower HB.out.size) (.int .i64 (((zm N : Nat) : Int) - 1)) (.slice A6 (rlen (zm N) (zr N len f)) c6)
    exact bodyPost_ret (v := zoneV (((zm N : Nat) : Int) - 1) A6 (rlen (zm N) (zr N len f)) c6) (by simp [results, Tryd.results19, go_sem, y0, y1]) rfl ⟨A6, c6, rfl, hzz, hp.2⟩
end
end Go.Proofs.YtcbkffpmclainaaDoor
