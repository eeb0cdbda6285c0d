/- The contract of Close: any zone, as it is taken. -/
import Derived.Test.YtlddelnbjihhgaaGreatDoorZVals
import Derived.Test.YtlddelnbjihhgaaGreatDoorWalks
namespace Go.Proofs.YtlddelnbjihhgaaGreatDoor
open Go.RowKit
attribute [local go_sem ↓] Go.wp_at_zero Go.wp_at_succ

set_option maxHeartbeats 800000 in
/-- The function that fill asks: each bound, as Near of it. -/
theorem close_fn {m i j : Nat} (hm7 : m ≤ 7) (hi : i < m) (hj : j < m) (zb b off cap : Nat) (f : Nat → Int) (W : World) (hz : Duo W zb 32 (.int .i64 ((m : Int) - 1)) (.slice (some ⟨b, off, none⟩) (m * m) cap)) (hb : b < W.heap.size) (hc : W.cell? ⟨b, off + (i * m + j), none⟩ = some (.int .i64 (f (i * m + j)))) :
    Calls Tryz.prog 79 #[.int .i64 (i : Int), .int .i64 (j : Int), .pointer (some ⟨zb, 0, none⟩)] W (ZRetInt (nearM m f i j) W) := by
  obtain ⟨e1, e2, e3, e4⟩ := spot_num hm7 hi hj
  have HA := Lib.hid (at_any ((m : Int) - 1) i j b off (m * m) cap (i * m + j) _ W (by omega) (by omega) (by omega) e1 ⟨e2, e3⟩ e4 hb hc)
  have c0 := hz.cell0
  have c1 := hz.cell1
  unfold nearM
  generalize f (i * m + j) = x at *
  clear e1 e2 e3 e4 hc
  go_enter Tryz.func79, Tryz.ntmps79
  go_wp2_with (first
    | (go_at_call 40; refine HA.out.mono ?_; rintro e w1 ⟨rfl, hb1⟩)
    | (go_at_call 80; refine (near_any _ _).mono ?_; rintro e w' ⟨rfl, rfl⟩))
  go_ret
  exact ⟨rfl, hb1⟩

/-- A zone that lies in the result's box is handed back. -/
theorem post_cell {fn : Func} {t : Tmp} {R : Ending → World → Prop} {a : Act} {W : World} {rb : Nat} {p q : Value} (hf : fn.results = #[.cell t 32]) (hd : a.defers = []) (ht : a.tmps.getD t undef = .pointer (some ⟨rb, 0, none⟩)) (hD : Duo W rb 32 p q) (hR : R (.returned (.agg #[p, q])) W) : bodyPost Tryz.prog fn R .ret a W := by
  have r0 := hD.cell0
  have r1 := hD.cell1
  simp at ht
  exact bodyPost_ret (v := .agg #[p, q]) (by simp [results, hf, go_sem, ht, r0, r1]) hd hR
/-- What Close makes of as many bounds as there must be. -/
def clR (m : Nat) (f : Nat → Int) : Option Mat := if aliveB m (nearM m f) = true then some (lev (nearM m f) m) else none
theorem clR_yes {m : Nat} {f : Nat → Int} (h : Alive m (nearM m f)) : clR m f = some (lev (nearM m f) m) := if_pos ((aliveB_iff _ _).2 h)
theorem clR_no {m : Nat} {f : Nat → Int} (h : ¬ Alive m (nearM m f)) : clR m f = none := if_neg (fun e => h ((aliveB_iff _ _).1 e))
theorem own_slice {W : World} {base : Nat} {e : TypeId} {size k : Nat} {v : Value} {xs : List Value} (h : W.ownsRow base e size v k xs) (hk : 0 < k) : ∃ g cap, v = .slice (some ⟨g, 0, none⟩) k cap := by
  rcases h.2 with ⟨_, h0⟩ | ⟨g, cap, cur, h1, _⟩
  · omega
  · exact ⟨g, cap, h1⟩
/-- Two boxes: the zone's, and the result's. -/
theorem two_boxes (w : World) (t : TypeId) (p q r s : Value) : Duo ((w.alloc (.cells #[p, q] t)).alloc (.cells #[r, s] t)) w.heap.size t p q ∧ Duo ((w.alloc (.cells #[p, q] t)).alloc (.cells #[r, s] t)) (w.heap.size + 1) t r s ∧ Below w.heap.size w ((w.alloc (.cells #[p, q] t)).alloc (.cells #[r, s] t)) := by
  refine ⟨(Duo.new w _ _ _).alloc _, ?_, ((Below.refl _ w).alloc (Nat.le_refl _) _).alloc (by simp) _⟩
  have h := Duo.new (w.alloc (.cells #[p, q] t)) t r s
  rw [World.size_alloc] at h
  exact h

set_option maxRecDepth 100000 in
set_option maxHeartbeats 1600000 in
theorem close_off {w : World} {v : Value} {N : Int} {len : Nat} {f : Nat → Int} (h : ZArg w v N len f) (hc : mayB N = false ∨ (mayB N = true ∧ len ≠ zm N * zm N)) : Calls Tryz.prog 34 #[v] w (RetZ w (zm N) none) := by
  obtain ⟨A, cap, rfl, hcap, hlen, -⟩ := h
  have HT := Lib.hid (two_boxes w 32 (.int .i64 N) (.slice A len cap) (.int .i64 0) (.slice none 0 0))
  rcases hc with hc | ⟨hc, hl⟩
  · have e : zm N = 1 := by unfold zm; rw [hc]; rfl
    rw [e]
    clear e
    go_enter Tryz.func34, Tryz.ntmps34
    go_wp2_with (first
      | (go_at_call 66; ((with_reducible refine (may_any _ _).mono ?_); rintro e w' ⟨rfl, rfl⟩))
      | (go_at_call 30; refine (bottom_any _ _).mono ?_; rintro e w1 ⟨rfl, hb1⟩; have hD := HT.out.2.1.below hb1; have d0 := hD.cell0; have d1 := hD.cell1; have f0 := hD.frozen0; have f1 := hD.frozen1))
    refine post_cell (rb := w.heap.size + 1) Tryz.results34 rfl rfl ((hD.set0 _).set1 _) ⟨_, rfl, rfl, ?_⟩
    exact ((HT.out.2.2.trans (hb1.mono HT.out.2.2.size)).setCell (p := ⟨w.heap.size + 1, 0, none⟩) (by simp) _).setCell (p := ⟨w.heap.size + 1, 1, none⟩) (by simp) _
  · have hm := zm_may hc
    have hb := zm_bd N
    have hB : botN N = N := by unfold botN; rw [if_pos hc]
    generalize zm N = m at *
    subst hm
    have hmm : 0 ≤ (m : Int) * m ∧ (m : Int) * m ≤ 49 := by
      have h1 : m * m ≤ 7 * 7 := Nat.mul_le_mul hb.2 hb.2
      have h2 : ((m * m : Nat) : Int) = (m : Int) * m := by simp
      omega
    have hm1 : (m : Int) - 1 + 1 = m := by omega
    have n1 : ((len : Int) == (m : Int) * m) = false := by
      have h2 : ((m * m : Nat) : Int) = (m : Int) * m := by simp
      rw [← h2]
      simp
      omega
    have HB := Lib.hid hB
    clear hB hl
    go_enter Tryz.func34, Tryz.ntmps34
    go_wp2_with (first
      | (go_at_call 66; ((with_reducible refine (may_any _ _).mono ?_); rintro e w' ⟨rfl, rfl⟩))
      | (go_at_call 30; refine (bottom_any _ _).mono ?_; rintro e w1 ⟨rfl, hb1⟩; have hD := HT.out.2.1.below hb1; have d0 := hD.cell0; have d1 := hD.cell1; have f0 := hD.frozen0; have f1 := hD.frozen1))
    refine post_cell (rb := w.heap.size + 1) Tryz.results34 rfl rfl ((hD.set0 _).set1 _) ⟨_, rfl, by rw [HB.out]; rfl, ?_⟩
    exact ((HT.out.2.2.trans (hb1.mono HT.out.2.2.size)).setCell (p := ⟨w.heap.size + 1, 0, none⟩) (by simp) _).setCell (p := ⟨w.heap.size + 1, 1, none⟩) (by simp) _

set_option maxRecDepth 100000 in
set_option maxHeartbeats 1600000 in
theorem close_on {w : World} {v : Value} {m : Nat} (h0m : 0 < m) (hm7 : m ≤ 7) {L : Nat} {f : Nat → Int} (h : ZArg w v ((m : Int) - 1) L f) (hL : L = m * m) : Calls Tryz.prog 34 #[v] w (RetZ w m (clR m f)) := by
  obtain ⟨A, cap, rfl, hcap, hlen, hcells⟩ := h
  have hLp : 0 < L := by rw [hL]; exact Nat.mul_pos h0m h0m
  obtain ⟨b, off, rfl, hb, hc⟩ := hcells hLp
  have HT := Lib.hid (two_boxes w 32 (.int .i64 ((m : Int) - 1)) (.slice (some ⟨b, off, none⟩) L cap) (.int .i64 0) (.slice none 0 0))
  have HC := Lib.hid hc
  have HL := Lib.hid hL
  have hmay := (zm_of h0m hm7).1
  have hmm : 0 ≤ (m : Int) * m ∧ (m : Int) * m ≤ 49 := by
    have h1 : m * m ≤ 7 * 7 := Nat.mul_le_mul hm7 hm7
    have h2 : ((m * m : Nat) : Int) = (m : Int) * m := by simp
    omega
  have hm1 : (m : Int) - 1 + 1 = m := by omega
  have n1 : ((L : Int) != (m : Int) * m) = false := by
    have h2 : ((m * m : Nat) : Int) = (m : Int) * m := by simp
    rw [← h2, hL]
    simp
  clear hcells hc hL
  go_enter Tryz.func34, Tryz.ntmps34
  go_wp2_with (go_at_call 66; ((with_reducible refine (may_any _ _).mono ?_); rintro e w' ⟨rfl, rfl⟩))
  refine (fill_any 79 #[.pointer (some ⟨w.heap.size, 0, none⟩)] m hm7 h0m (nearM m f) _ (enters_of Tryz.func79 (by kernel_rfl) rfl) (fun i j W hi hj hbW => ?_)).mono ?_
  · have hlt := spot_lt hi hj
    have hz := HT.out.1.below hbW
    have hbW2 := HT.out.2.2.trans (hbW.mono HT.out.2.2.size)
    rw [HL.out] at hz
    exact close_fn hm7 hi hj w.heap.size b off cap f W hz (Nat.lt_of_lt_of_le hb hbW2.size) ((hbW2.cell (p := ⟨b, off + (i * m + j), none⟩) hb).trans (HC.out _ (by rw [HL.out]; exact hlt)))
  rintro e w2 ⟨v2, rfl, ho2, hb2⟩
  obtain ⟨g, cap2, rfl⟩ := own_slice ho2 (Nat.mul_pos h0m h0m)
  have hg2 := (ho2.lt g rfl).1
  have hD2 := HT.out.2.1.below hb2
  have hB2 := HT.out.2.2.trans (hb2.mono HT.out.2.2.size)
  have HO2 := Lib.hid ho2
  have HB2 := Lib.hid hB2
  have HD2 := Lib.hid hD2
  simp only [World.size_alloc] at hg2
  clear ho2 hb2 hB2 hD2 HT
  go_wp2_with fail
  refine (settle_any m hm7 h0m (nearM m f) g cap2 _ w2 (fun i j _ _ => by have := nearZ_bd (f (i * m + j)); unfold nearM; omega) HO2.out).mono ?_
  rintro e w3 (⟨ha, rfl, ho3, hg3⟩ | ⟨hna, rfl, hg3⟩)
  · have hD3 := HD2.out.kept hg3 (by simp; omega)
    have hB3 := HB2.out.grown hg3 HB2.out.size (fun r e => by cases e; omega)
    have d0 := hD3.cell0
    have d1 := hD3.cell1
    have f0 := hD3.frozen0
    have f1 := hD3.frozen1
    have HO3 := Lib.hid ho3
    have HB3 := Lib.hid hB3
    clear ho3 hB3 hg3
    go_wp2_with fail
    refine post_cell (rb := w.heap.size + 1) Tryz.results34 rfl rfl ((hD3.set0 _).set1 _) ⟨_, rfl, ?_, (HB3.out.setCell (p := ⟨w.heap.size + 1, 0, none⟩) (by simp) _).setCell (p := ⟨w.heap.size + 1, 1, none⟩) (by simp) _⟩
    rw [clR_yes ha]
    refine ⟨lev_closed ha, g, cap2, rfl, ?_⟩
    exact own_lower ((HO3.out.kept (duo_grown_setCell _ _ _) (.inr (by simp [Value.ownBlock]; omega))).kept (duo_grown_setCell _ _ _) (.inr (by simp [Value.ownBlock]; omega))) (by simp <;> omega)
  · have hD3 := HD2.out.kept hg3 (by simp; omega)
    have hB3 := HB2.out.grown hg3 HB2.out.size (fun r e => by cases e; omega)
    have d0 := hD3.cell0
    have d1 := hD3.cell1
    have f0 := hD3.frozen0
    have f1 := hD3.frozen1
    have HB3 := Lib.hid hB3
    clear hB3 hg3
    go_wp2_with fail
    refine post_cell (rb := w.heap.size + 1) Tryz.results34 rfl rfl ((hD3.set0 _).set1 _) ⟨_, rfl, ?_, (HB3.out.setCell (p := ⟨w.heap.size + 1, 0, none⟩) (by simp) _).setCell (p := ⟨w.heap.size + 1, 1, none⟩) (by simp) _⟩
    rw [clR_no hna]
    rfl

/-- Close takes any zone as zm and zr say. -/
theorem close_any {w : World} {v : Value} {N : Int} {len : Nat} {f : Nat → Int} (h : ZArg w v N len f) : Calls Tryz.prog 34 #[v] w (RetZ w (zm N) (zr N len f)) := by
  unfold zr
  cases hc : mayB N
  · exact close_off h (Or.inl hc)
  · by_cases hl : len = zm N * zm N
    · have hm := zm_may hc
      have hb := zm_bd N
      have h' : ZArg w v ((zm N : Nat) - 1) len f := by rw [hm]; exact h
      have q := close_on hb.1 hb.2 h' hl
      have e : (true && (decide (len = zm N * zm N) && aliveB (zm N) (nearM (zm N) f))) = aliveB (zm N) (nearM (zm N) f) := by rw [decide_eq_true hl]; rfl
      rw [e]
      exact q
    · have e : (true && (decide (len = zm N * zm N) && aliveB (zm N) (nearM (zm N) f))) = false := by rw [decide_eq_false hl]; rfl
      rw [e]
      exact close_off h (Or.inr ⟨hc, hl⟩)
end Go.Proofs.YtlddelnbjihhgaaGreatDoor
