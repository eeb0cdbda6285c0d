/- Put together of: ZVals, Close, Two. -/
import Derived.Test.YtlkbapcienjdcaaDoorGNums
import Derived.Test.YtlkbapcienjdcaaDoorGSettle
import Derived.Test.YtlkbapcienjdcaaDoorWalks
import Derived.Deep.RegionWith
import Derived.Deep.DeepCutAuto
import Derived.BigRegion
/- What the zone layer takes any zone as, plainly: how many variables, and its closed bounds, if a point is left. Nothing of the program is walked here. -/
namespace Go.Proofs.YtlkbapcienjdcaaDoor
open Go.RowKit

def zfitsB (m : Nat) (D : Mat) : Bool := (List.range m).all fun i => (List.range m).all fun j => decide (-far i j ≤ D i j)
theorem zfitsB_iff (m : Nat) (D : Mat) : zfitsB m D = true ↔ Fits m D := by
  unfold zfitsB Fits
  simp only [List.all_eq_true, List.mem_range, decide_eq_true_eq]
  exact ⟨fun h i j hi hj => h i hi j hj, fun h i hi j hj => h i j hi hj⟩
def aliveB (m : Nat) (A : Mat) : Bool := zfitsB m (cap A) && (List.range m).all fun k => zfitsB m (fun i j => lev A k i k + lev A k k j)
theorem aliveB_iff (m : Nat) (A : Mat) : aliveB m A = true ↔ Alive m A := by
  unfold aliveB Alive
  rw [Bool.and_eq_true, zfitsB_iff, List.all_eq_true]
  constructor
  · rintro ⟨h1, h2⟩
    exact ⟨h1, fun k hk => (zfitsB_iff _ _).1 (h2 k (List.mem_range.2 hk))⟩
  · rintro ⟨h1, h2⟩
    exact ⟨h1, fun k hk => (zfitsB_iff _ _).2 (h2 k (List.mem_range.1 hk))⟩

/-- The number of variables and one, as any zone is taken; its bounds, each as Near of it; and what comes of them. -/
def zm (N : Int) : Nat := if mayB N = true then N.toNat + 1 else 1
theorem zm_bd (N : Int) : 0 < zm N ∧ zm N ≤ 7 := by
  unfold zm
  cases h : mayB N
  · simp
  · have := (mayB_iff N).1 h; simp; omega
theorem zm_may {N : Int} (h : mayB N = true) : ((zm N : Nat) : Int) - 1 = N := by
  have := (mayB_iff N).1 h
  unfold zm
  rw [if_pos h]
  omega
def nearM (m : Nat) (f : Nat → Int) : Mat := fun i j => nearZ (f (i * m + j))
def zr (N : Int) (len : Nat) (f : Nat → Int) : Option Mat := if (mayB N && (decide (len = zm N * zm N) && aliveB (zm N) (nearM (zm N) f))) = true then some (lev (nearM (zm N) f) (zm N)) else none
theorem zr_closed {N : Int} {len : Nat} {f : Nat → Int} {C : Mat} (h : zr N len f = some C) : Closed (zm N) C := by
  unfold zr at h
  split at h
  · rename_i hc
    simp only [Bool.and_eq_true] at hc
    injection h with h
    rw [← h]
    exact lev_closed ((aliveB_iff _ _).1 hc.2.2)
  · cases h

/-- An argument: any zone. -/
def ZArg (w : World) (v : Value) (N : Int) (len : Nat) (f : Nat → Int) : Prop :=
  ∃ (A : Option Addr) (cap : Nat), v = zoneV N A len cap ∧ len ≤ cap ∧ len ≤ 9223372036854775807 ∧ (0 < len → ∃ b off : Nat, A = some ⟨b, off, none⟩ ∧ b < w.heap.size ∧ ∀ j, j < len → w.cell? ⟨b, off + j, none⟩ = some (.int .i64 (f j)))
theorem ZArg.below {w w' : World} {v : Value} {N : Int} {len : Nat} {f : Nat → Int} (h : ZArg w v N len f) (hb : Below w.heap.size w w') : ZArg w' v N len f := by
  obtain ⟨A, cap, e, h1, h2, h3⟩ := h
  refine ⟨A, cap, e, h1, h2, fun hl => ?_⟩
  obtain ⟨b, off, e, hlt, hc⟩ := h3 hl
  exact ⟨b, off, e, Nat.lt_of_lt_of_le hlt hb.size, fun j hj => (hb.cell (p := ⟨b, off + j, none⟩) hlt).trans (hc j hj)⟩
/-- A right zone, in a row from base on: of m - 1 variables; R: its bounds, if it has a point. -/
def ZRes (w : World) (base : Nat) (m : Nat) (R : Option Mat) (v : Value) : Prop :=
  match R with
  | none => v = zoneV ((m : Int) - 1) none 0 0
  | some C => Closed m C ∧ ∃ g cap, v = zoneV ((m : Int) - 1) (some ⟨g, 0, none⟩) (m * m) cap ∧ w.ownsRow base 3 1 (.slice (some ⟨g, 0, none⟩) (m * m) cap) (m * m) ((flatL m C).map (Value.int .i64))
def RetZ (w : World) (m : Nat) (R : Option Mat) (e : Ending) (w' : World) : Prop := ∃ v, e = .returned v ∧ ZRes w' w.heap.size m R v ∧ Below w.heap.size w w'
theorem ZRes.below {w w' : World} {base m : Nat} {R : Option Mat} {v : Value} (h : ZRes w base m R v) (hb : Below w.heap.size w w') : ZRes w' base m R v := by
  cases R with
  | none => exact h
  | some C => obtain ⟨hc, g, cap, e, ho⟩ := h; exact ⟨hc, g, cap, e, own_kept_below ho hb⟩
theorem ZRes.lower {w : World} {base base' m : Nat} {R : Option Mat} {v : Value} (h : ZRes w base m R v) (hb : base' ≤ base) : ZRes w base' m R v := by
  cases R with
  | none => exact h
  | some C => obtain ⟨hc, g, cap, e, ho⟩ := h; exact ⟨hc, g, cap, e, own_lower ho hb⟩
/-- How many bounds a right zone has, and which. -/
def rlen (m : Nat) : Option Mat → Nat
  | none => 0
  | some _ => m * m
def rfun (m : Nat) : Option Mat → Nat → Int
  | none => fun _ => 0
  | some C => fun t => C (t / m) (t % m)
theorem ZRes.arg {w : World} {base m : Nat} {R : Option Mat} {v : Value} (h : ZRes w base m R v) (hm : m ≤ 7) : ZArg w v ((m : Int) - 1) (rlen m R) (rfun m R) := by
  cases R with
  | none => exact ⟨none, 0, h, Nat.le_refl _, by simp [rlen], fun hl => absurd hl (by simp [rlen])⟩
  | some C =>
    obtain ⟨hc, g, cap, e, ho⟩ := h
    have hlen : m * m ≤ cap := by
      rcases ho.2 with ⟨h1, _⟩ | ⟨g', cap', cur, h1, _, _, h4, _⟩
      · simp at h1
      · simp only [Value.slice.injEq] at h1; omega
    refine ⟨_, cap, e, hlen, ?_, fun _ => ⟨g, 0, rfl, (ho.lt g rfl).2, fun j hj => ?_⟩⟩
    · have : m * m ≤ 7 * 7 := Nat.mul_le_mul hm hm
      show m * m ≤ 9223372036854775807
      omega
    · have hj : j < m * m := hj
      rw [Nat.zero_add, ho.cellAt j (by omega), List.getElem?_map]
      unfold flatL
      rw [List.getElem?_map, List.getElem?_range hj]
      rfl
theorem zm_of {m : Nat} (h0 : 0 < m) (h7 : m ≤ 7) : mayB ((m : Int) - 1) = true ∧ zm ((m : Int) - 1) = m := by
  have h : mayB ((m : Int) - 1) = true := (mayB_iff _).2 ⟨by omega, by omega⟩
  refine ⟨h, ?_⟩
  unfold zm
  rw [if_pos h]
  omega
theorem near_closed {m : Nat} {C : Mat} (h : Closed m C) : Same m (nearM m (rfun m (some C))) C := by
  intro i j hi hj
  have hb := h.bd hi hj
  show nearZ (C ((i * m + j) / m) ((i * m + j) % m)) = C i j
  rw [Nat.mul_comm i m, Nat.mul_add_div (by omega), Nat.mul_add_mod, Nat.div_eq_of_lt hj, Nat.mod_eq_of_lt hj, Nat.add_zero]
  rcases nearZ_cases (C i j) with q | q | q <;> omega
/-- A right zone is taken as it is. -/
theorem zr_right {m : Nat} {C : Mat} (h0 : 0 < m) (h7 : m ≤ 7) (h : Closed m C) : ∃ D, zr ((m : Int) - 1) (rlen m (some C)) (rfun m (some C)) = some D ∧ Same m D C := by
  obtain ⟨e1, e2⟩ := zm_of h0 h7
  have hs := near_closed h
  have ha : Alive m (nearM m (rfun m (some C))) := alive_congr (cap_congr (same_symm hs)) (lev_same h).1
  refine ⟨lev (nearM m (rfun m (some C))) m, ?_, same_trans (lev_congr (cap_congr hs) m (Nat.le_refl _)) (lev_same h).2⟩
  unfold zr
  rw [e1, e2, (aliveB_iff _ _).2 ha]
  simp [rlen]
theorem zr_bottom (m : Nat) (h0 : 0 < m) (h7 : m ≤ 7) : zr ((m : Int) - 1) (rlen m none) (rfun m none) = none := by
  obtain ⟨e1, e2⟩ := zm_of h0 h7
  unfold zr
  rw [e1, e2]
  have hn : ¬ (0 : Nat) = m * m := fun e => by have := Nat.mul_le_mul h0 h0; omega
  simp [rlen, hn]
end Go.Proofs.YtlkbapcienjdcaaDoor

/- The contract of Close: any zone, as it is taken. -/
namespace Go.Proofs.YtlkbapcienjdcaaDoor
open Go.RowKit
attribute [local go_sem ↓] Go.wp_at_zero Go.wp_at_succ

set_option maxHeartbeats 800000 in
/-- The function that fill asks: each bound, as Near of it. -/
theorem close_fn {m i j : Nat} (hm7 : m ≤ 7) (hi : i < m) (hj : j < m) (zb b off cap : Nat) (f : Nat → Int) (W : World) (hz : Duo W zb 39 (.int .i64 ((m : Int) - 1)) (.slice (some ⟨b, off, none⟩) (m * m) cap)) (hb : b < W.heap.size) (hc : W.cell? ⟨b, off + (i * m + j), none⟩ = some (.int .i64 (f (i * m + j)))) :
    Calls Tryd.prog 57 #[.int .i64 (i : Int), .int .i64 (j : Int), .pointer (some ⟨zb, 0, none⟩)] W (ZRetInt (nearM m f i j) W) := by
  obtain ⟨e1, e2, e3, e4⟩ := spot_num hm7 hi hj
  have HA := Lib.hid (at_any ((m : Int) - 1) i j b off (m * m) cap (i * m + j) _ W (by omega) (by omega) (by omega) e1 ⟨e2, e3⟩ e4 hb hc)
  have c0 := hz.cell0
  have c1 := hz.cell1
  unfold nearM
  generalize f (i * m + j) = x at *
  clear e1 e2 e3 e4 hc
  go_enter Tryd.func57, Tryd.ntmps57
  go_wp2_with (first
    | (go_at_call 53; refine HA.out.mono ?_; rintro e w1 ⟨rfl, hb1⟩)
    | (go_at_call 58; refine (near_any _ _).mono ?_; rintro e w' ⟨rfl, rfl⟩))
  go_ret
  exact ⟨rfl, hb1⟩

/-- A zone that lies in the result's box is handed back. -/
theorem post_cell {fn : Func} {t : Tmp} {R : Ending → World → Prop} {a : Act} {W : World} {rb : Nat} {p q : Value} (hf : fn.results = #[.cell t 39]) (hd : a.defers = []) (ht : a.tmps.getD t undef = .pointer (some ⟨rb, 0, none⟩)) (hD : Duo W rb 39 p q) (hR : R (.returned (.agg #[p, q])) W) : bodyPost Tryd.prog fn R .ret a W := by
  have r0 := hD.cell0
  have r1 := hD.cell1
  simp at ht
  exact bodyPost_ret (v := .agg #[p, q]) (by simp [results, hf, go_sem, ht, r0, r1]) hd hR
/-- What Close makes of as many bounds as there must be. -/
def clR (m : Nat) (f : Nat → Int) : Option Mat := if aliveB m (nearM m f) = true then some (lev (nearM m f) m) else none
theorem clR_yes {m : Nat} {f : Nat → Int} (h : Alive m (nearM m f)) : clR m f = some (lev (nearM m f) m) := if_pos ((aliveB_iff _ _).2 h)
theorem clR_no {m : Nat} {f : Nat → Int} (h : ¬ Alive m (nearM m f)) : clR m f = none := if_neg (fun e => h ((aliveB_iff _ _).1 e))
theorem own_slice {W : World} {base : Nat} {e : TypeId} {size k : Nat} {v : Value} {xs : List Value} (h : W.ownsRow base e size v k xs) (hk : 0 < k) : ∃ g cap, v = .slice (some ⟨g, 0, none⟩) k cap := by
  rcases h.2 with ⟨_, h0⟩ | ⟨g, cap, cur, h1, _⟩
  · omega
  · exact ⟨g, cap, h1⟩
/-- Two boxes: the zone's, and the result's. -/
theorem two_boxes (w : World) (t : TypeId) (p q r s : Value) : Duo ((w.alloc (.cells #[p, q] t)).alloc (.cells #[r, s] t)) w.heap.size t p q ∧ Duo ((w.alloc (.cells #[p, q] t)).alloc (.cells #[r, s] t)) (w.heap.size + 1) t r s ∧ Below w.heap.size w ((w.alloc (.cells #[p, q] t)).alloc (.cells #[r, s] t)) := by
  refine ⟨(Duo.new w _ _ _).alloc _, ?_, ((Below.refl _ w).alloc (Nat.le_refl _) _).alloc (by simp) _⟩
  have h := Duo.new (w.alloc (.cells #[p, q] t)) t r s
  rw [World.size_alloc] at h
  exact h

set_option maxRecDepth 100000 in
set_option maxHeartbeats 1600000 in
theorem close_off {w : World} {v : Value} {N : Int} {len : Nat} {f : Nat → Int} (h : ZArg w v N len f) (hc : mayB N = false ∨ (mayB N = true ∧ len ≠ zm N * zm N)) : Calls Tryd.prog 32 #[v] w (RetZ w (zm N) none) := by
  obtain ⟨A, cap, rfl, hcap, hlen, -⟩ := h
  have HT := Lib.hid (two_boxes w 39 (.int .i64 N) (.slice A len cap) (.int .i64 0) (.slice none 0 0))
  rcases hc with hc | ⟨hc, hl⟩
  · have e : zm N = 1 := by unfold zm; rw [hc]; rfl
    rw [e]
    clear e
    go_enter Tryd.func32, Tryd.ntmps32
    go_wp2_with (first
      | (go_at_call 39; ((with_reducible refine (may_any _ _).mono ?_); rintro e w' ⟨rfl, rfl⟩))
      | (go_at_call 20; refine (bottom_any _ _).mono ?_; rintro e w1 ⟨rfl, hb1⟩; have hD := HT.out.2.1.below hb1; have d0 := hD.cell0; have d1 := hD.cell1; have f0 := hD.frozen0; have f1 := hD.frozen1))
    refine post_cell (rb := w.heap.size + 1) Tryd.results32 rfl rfl ((hD.set0 _).set1 _) ⟨_, rfl, rfl, ?_⟩
    exact ((HT.out.2.2.trans (hb1.mono HT.out.2.2.size)).setCell (p := ⟨w.heap.size + 1, 0, none⟩) (by simp) _).setCell (p := ⟨w.heap.size + 1, 1, none⟩) (by simp) _
  · have hm := zm_may hc
    have hb := zm_bd N
    have hB : botN N = N := by unfold botN; rw [if_pos hc]
    generalize zm N = m at *
    subst hm
    have hmm : 0 ≤ (m : Int) * m ∧ (m : Int) * m ≤ 49 := by
      have h1 : m * m ≤ 7 * 7 := Nat.mul_le_mul hb.2 hb.2
      have h2 : ((m * m : Nat) : Int) = (m : Int) * m := by simp
      omega
    have hm1 : (m : Int) - 1 + 1 = m := by omega
    have n1 : ((len : Int) == (m : Int) * m) = false := by
      have h2 : ((m * m : Nat) : Int) = (m : Int) * m := by simp
      rw [← h2]
      simp
      omega
    have HB := Lib.hid hB
    clear hB hl
    go_enter Tryd.func32, Tryd.ntmps32
    go_wp2_with (first
      | (go_at_call 39; ((with_reducible refine (may_any _ _).mono ?_); rintro e w' ⟨rfl, rfl⟩))
      | (go_at_call 20; refine (bottom_any _ _).mono ?_; rintro e w1 ⟨rfl, hb1⟩; have hD := HT.out.2.1.below hb1; have d0 := hD.cell0; have d1 := hD.cell1; have f0 := hD.frozen0; have f1 := hD.frozen1))
    refine post_cell (rb := w.heap.size + 1) Tryd.results32 rfl rfl ((hD.set0 _).set1 _) ⟨_, rfl, by rw [HB.out]; rfl, ?_⟩
    exact ((HT.out.2.2.trans (hb1.mono HT.out.2.2.size)).setCell (p := ⟨w.heap.size + 1, 0, none⟩) (by simp) _).setCell (p := ⟨w.heap.size + 1, 1, none⟩) (by simp) _

set_option maxRecDepth 100000 in
set_option maxHeartbeats 1600000 in
theorem close_on {w : World} {v : Value} {m : Nat} (h0m : 0 < m) (hm7 : m ≤ 7) {L : Nat} {f : Nat → Int} (h : ZArg w v ((m : Int) - 1) L f) (hL : L = m * m) : Calls Tryd.prog 32 #[v] w (RetZ w m (clR m f)) := by
  obtain ⟨A, cap, rfl, hcap, hlen, hcells⟩ := h
  have hLp : 0 < L := by rw [hL]; exact Nat.mul_pos h0m h0m
  obtain ⟨b, off, rfl, hb, hc⟩ := hcells hLp
  have HT := Lib.hid (two_boxes w 39 (.int .i64 ((m : Int) - 1)) (.slice (some ⟨b, off, none⟩) L cap) (.int .i64 0) (.slice none 0 0))
  have HC := Lib.hid hc
  have HL := Lib.hid hL
  have hmay := (zm_of h0m hm7).1
  have hmm : 0 ≤ (m : Int) * m ∧ (m : Int) * m ≤ 49 := by
    have h1 : m * m ≤ 7 * 7 := Nat.mul_le_mul hm7 hm7
    have h2 : ((m * m : Nat) : Int) = (m : Int) * m := by simp
    omega
  have hm1 : (m : Int) - 1 + 1 = m := by omega
  have n1 : ((L : Int) != (m : Int) * m) = false := by
    have h2 : ((m * m : Nat) : Int) = (m : Int) * m := by simp
    rw [← h2, hL]
    simp
  clear hcells hc hL
  go_enter Tryd.func32, Tryd.ntmps32
  go_wp2_with (go_at_call 39; ((with_reducible refine (may_any _ _).mono ?_); rintro e w' ⟨rfl, rfl⟩))
  refine (fill_any 57 #[.pointer (some ⟨w.heap.size, 0, none⟩)] m hm7 h0m (nearM m f) _ (enters_of Tryd.func57 (by kernel_rfl) rfl) (fun i j W hi hj hbW => ?_)).mono ?_
  · have hlt := spot_lt hi hj
    have hz := HT.out.1.below hbW
    have hbW2 := HT.out.2.2.trans (hbW.mono HT.out.2.2.size)
    rw [HL.out] at hz
    exact close_fn hm7 hi hj w.heap.size b off cap f W hz (Nat.lt_of_lt_of_le hb hbW2.size) ((hbW2.cell (p := ⟨b, off + (i * m + j), none⟩) hb).trans (HC.out _ (by rw [HL.out]; exact hlt)))
  rintro e w2 ⟨v2, rfl, ho2, hb2⟩
  obtain ⟨g, cap2, rfl⟩ := own_slice ho2 (Nat.mul_pos h0m h0m)
  have hg2 := (ho2.lt g rfl).1
  have hD2 := HT.out.2.1.below hb2
  have hB2 := HT.out.2.2.trans (hb2.mono HT.out.2.2.size)
  have HO2 := Lib.hid ho2
  have HB2 := Lib.hid hB2
  have HD2 := Lib.hid hD2
  simp only [World.size_alloc] at hg2
  clear ho2 hb2 hB2 hD2 HT
  go_wp2_with fail
  refine (settle_any m hm7 h0m (nearM m f) g cap2 _ w2 (fun i j _ _ => by have := nearZ_bd (f (i * m + j)); unfold nearM; omega) HO2.out).mono ?_
  rintro e w3 (⟨ha, rfl, ho3, hg3⟩ | ⟨hna, rfl, hg3⟩)
  · have hD3 := HD2.out.kept hg3 (by simp; omega)
    have hB3 := HB2.out.grown hg3 HB2.out.size (fun r e => by cases e; omega)
    have d0 := hD3.cell0
    have d1 := hD3.cell1
    have f0 := hD3.frozen0
    have f1 := hD3.frozen1
    have HO3 := Lib.hid ho3
    have HB3 := Lib.hid hB3
    clear ho3 hB3 hg3
    go_wp2_with fail
    refine post_cell (rb := w.heap.size + 1) Tryd.results32 rfl rfl ((hD3.set0 _).set1 _) ⟨_, rfl, ?_, (HB3.out.setCell (p := ⟨w.heap.size + 1, 0, none⟩) (by simp) _).setCell (p := ⟨w.heap.size + 1, 1, none⟩) (by simp) _⟩
    rw [clR_yes ha]
    refine ⟨lev_closed ha, g, cap2, rfl, ?_⟩
    exact own_lower ((HO3.out.kept (duo_grown_setCell _ _ _) (.inr (by simp [Value.ownBlock]; omega))).kept (duo_grown_setCell _ _ _) (.inr (by simp [Value.ownBlock]; omega))) (by simp <;> omega)
  · have hD3 := HD2.out.kept hg3 (by simp; omega)
    have hB3 := HB2.out.grown hg3 HB2.out.size (fun r e => by cases e; omega)
    have d0 := hD3.cell0
    have d1 := hD3.cell1
    have f0 := hD3.frozen0
    have f1 := hD3.frozen1
    have HB3 := Lib.hid hB3
    clear hB3 hg3
    go_wp2_with fail
    refine post_cell (rb := w.heap.size + 1) Tryd.results32 rfl rfl ((hD3.set0 _).set1 _) ⟨_, rfl, ?_, (HB3.out.setCell (p := ⟨w.heap.size + 1, 0, none⟩) (by simp) _).setCell (p := ⟨w.heap.size + 1, 1, none⟩) (by simp) _⟩
    rw [clR_no hna]
    rfl

/-- Close takes any zone as zm and zr say. -/
theorem close_any {w : World} {v : Value} {N : Int} {len : Nat} {f : Nat → Int} (h : ZArg w v N len f) : Calls Tryd.prog 32 #[v] w (RetZ w (zm N) (zr N len f)) := by
  unfold zr
  cases hc : mayB N
  · exact close_off h (Or.inl hc)
  · by_cases hl : len = zm N * zm N
    · have hm := zm_may hc
      have hb := zm_bd N
      have h' : ZArg w v ((zm N : Nat) - 1) len f := by rw [hm]; exact h
      have q := close_on hb.1 hb.2 h' hl
      have e : (true && (decide (len = zm N * zm N) && aliveB (zm N) (nearM (zm N) f))) = aliveB (zm N) (nearM (zm N) f) := by rw [decide_eq_true hl]; rfl
      rw [e]
      exact q
    · have e : (true && (decide (len = zm N * zm N) && aliveB (zm N) (nearM (zm N) f))) = false := by rw [decide_eq_false hl]; rfl
      rw [e]
      exact close_off h (Or.inr ⟨hc, hl⟩)
end Go.Proofs.YtlkbapcienjdcaaDoor

/- The contract of two: both zones, as they are taken, and whether they are of one N. -/
namespace Go.Proofs.YtlkbapcienjdcaaDoor
open Go.RowKit
attribute [local go_sem ↓] Go.wp_at_zero Go.wp_at_succ

/-- A right zone is handed back. -/
def RetC (w : World) (m : Nat) (R : Option Mat) (e : Ending) (w' : World) : Prop := ∃ A cap, e = .returned (zoneV ((m : Int) - 1) A (rlen m R) cap) ∧ ZRes w' w.heap.size m R (zoneV ((m : Int) - 1) A (rlen m R) cap) ∧ Below w.heap.size w w'
theorem RetZ.shape {w : World} {m : Nat} {R : Option Mat} {e : Ending} {w' : World} (h : RetZ w m R e w') : RetC w m R e w' := by
  obtain ⟨v, rfl, hv, hb⟩ := h
  cases R with
  | none => have hv : v = zoneV ((m : Int) - 1) none 0 0 := hv
            subst hv; exact ⟨none, 0, rfl, rfl, hb⟩
  | some C => obtain ⟨hc, g, cap, rfl, ho⟩ := hv; exact ⟨_, cap, rfl, ⟨hc, g, cap, rfl, ho⟩, hb⟩
theorem close_z {w : World} {v : Value} {N : Int} {len : Nat} {f : Nat → Int} (h : ZArg w v N len f) : Calls Tryd.prog 32 #[v] w (RetC w (zm N) (zr N len f)) := (close_any h).mono fun _ _ h => h.shape

/-- Four boxes of zones. -/
def Four (w W : World) (a b c d a' b' c' d' : Value) : Prop := Duo W w.heap.size 39 a a' ∧ Duo W (w.heap.size + 1) 39 b b' ∧ Duo W (w.heap.size + 1 + 1) 39 c c' ∧ Duo W (w.heap.size + 1 + 1 + 1) 39 d d' ∧ Below w.heap.size w W
theorem Four.below {w W W1 : World} {a b c d a' b' c' d' : Value} (h : Four w W a b c d a' b' c' d') (hb : Below W.heap.size W W1) : Four w W1 a b c d a' b' c' d' := ⟨h.1.below hb, h.2.1.below hb, h.2.2.1.below hb, h.2.2.2.1.below hb, h.2.2.2.2.trans (hb.mono h.2.2.2.2.size)⟩
theorem Four.drew {w W : World} {a b c d a' b' c' d' : Value} (h : Four w W a b c d a' b' c' d') : Four w W.drew a b c d a' b' c' d' := ⟨h.1, h.2.1, h.2.2.1, h.2.2.2.1, h.2.2.2.2.drew⟩
theorem four_new (w : World) (a b c d a' b' c' d' : Value) : Four w ((((w.alloc (.cells #[a, a'] 39)).alloc (.cells #[b, b'] 39)).alloc (.cells #[c, c'] 39)).alloc (.cells #[d, d'] 39)) a b c d a' b' c' d' := by
  have h1 := Duo.new (w.alloc (.cells #[a, a'] 39)) 39 b b'
  have h2 := Duo.new ((w.alloc (.cells #[a, a'] 39)).alloc (.cells #[b, b'] 39)) 39 c c'
  have h3 := Duo.new (((w.alloc (.cells #[a, a'] 39)).alloc (.cells #[b, b'] 39)).alloc (.cells #[c, c'] 39)) 39 d d'
  simp only [World.size_alloc] at h1 h2 h3
  exact ⟨(((Duo.new w _ _ _).alloc _).alloc _).alloc _, (h1.alloc _).alloc _, h2.alloc _, h3, ((((Below.refl _ w).alloc (Nat.le_refl _) _).alloc (by simp) _).alloc (by simp; omega) _).alloc (by simp; omega) _⟩

/-- Behind 'a, b = Close(a), Close(b)'. -/
def Both (w : World) (ma mb : Nat) (Ra Rb : Option Mat) (wx : World) : Prop :=
  ∃ A ca B cb, ZRes wx w.heap.size ma Ra (zoneV ((ma : Int) - 1) A (rlen ma Ra) ca) ∧ ZRes wx w.heap.size mb Rb (zoneV ((mb : Int) - 1) B (rlen mb Rb) cb) ∧
    Four w wx (.int .i64 ((ma : Int) - 1)) (.int .i64 ((mb : Int) - 1)) (.int .i64 0) (.int .i64 0) (.slice A (rlen ma Ra) ca) (.slice B (rlen mb Rb) cb) (.slice none 0 0) (.slice none 0 0)
def RetTwo (w : World) (ma mb : Nat) (Ra Rb : Option Mat) (e : Ending) (w' : World) : Prop :=
  ∃ A ca B cb, e = .returned (.tuple #[zoneV ((ma : Int) - 1) A (rlen ma Ra) ca, zoneV ((mb : Int) - 1) B (rlen mb Rb) cb, .bool (decide (ma = mb))]) ∧
    ZRes w' w.heap.size ma Ra (zoneV ((ma : Int) - 1) A (rlen ma Ra) ca) ∧ ZRes w' w.heap.size mb Rb (zoneV ((mb : Int) - 1) B (rlen mb Rb) cb) ∧ Below w.heap.size w w'

theorem ZRes.setCell {W : World} {base m : Nat} {R : Option Mat} {v : Value} (h : ZRes W base m R v) {a : Addr} (hne : a.block < base) (u : Value) : ZRes (W.setCell a u) base m R v := by
  cases R with
  | none => exact h
  | some C =>
    obtain ⟨hc, g, cap, e, ho⟩ := h
    refine ⟨hc, g, cap, e, ho.kept (duo_grown_setCell W a u) (.inr ?_)⟩
    have := (ho.lt g rfl).1
    simp [Value.ownBlock]
    omega
theorem ZRes.setBox {W : World} {base m B o : Nat} {R : Option Mat} {v p q : Value} (h : ZRes W base m R v) (hd : Duo W B 39 p q) (u : Value) : ZRes (W.setCell ⟨B, o, none⟩ u) base m R v := by
  cases R with
  | none => exact h
  | some C =>
    obtain ⟨hc, g, cap, e, ho⟩ := h
    refine ⟨hc, g, cap, e, ho.kept (duo_grown_setCell W _ u) (.inr ?_)⟩
    exact (hd.not_row (by decide) ho).symm
theorem same_n (ma mb : Nat) : ((ma : Int) - 1 == (mb : Int) - 1) = decide (ma = mb) := by
  rw [Bool.eq_iff_iff, beq_iff_eq, decide_eq_true_eq]; omega
theorem Four.put {w W : World} {a b c d a' b' c' d' : Value} (h : Four w W a b c d a' b' c' d') (x y x' y' : Value) :
    Four w ((((W.setCell ⟨w.heap.size, 0, none⟩ x).setCell ⟨w.heap.size, 1, none⟩ x').setCell ⟨w.heap.size + 1, 0, none⟩ y).setCell ⟨w.heap.size + 1, 1, none⟩ y') x y c d x' y' c' d' := by
  obtain ⟨h1, h2, h3, h4, h5⟩ := h
  refine ⟨(((h1.set0 x).set1 x').other (by simp) _).other (by simp) _, ((((h2.other (by simp) _).other (by simp) _).set0 y).set1 y'), (((h3.other (by simp; omega) _).other (by simp; omega) _).other (by simp) _).other (by simp) _, (((h4.other (by simp; omega) _).other (by simp; omega) _).other (by simp; omega) _).other (by simp; omega) _, ?_⟩
  exact (((h5.setCell (p := ⟨w.heap.size, 0, none⟩) (by simp) _).setCell (p := ⟨w.heap.size, 1, none⟩) (by simp) _).setCell (p := ⟨w.heap.size + 1, 0, none⟩) (by simp) _).setCell (p := ⟨w.heap.size + 1, 1, none⟩) (by simp) _
theorem both_mk {w W w1 w2 : World} {ma mb : Nat} {Ra Rb : Option Mat} {a b a' b' : Value} {A B : Option Addr} {c1 c2 : Nat} (hF : Four w W a b (.int .i64 0) (.int .i64 0) a' b' (.slice none 0 0) (.slice none 0 0)) (hb1 : Below W.heap.size W w1) (hb2 : Below w1.heap.size w1 w2)
    (hz1 : ZRes w1 W.heap.size ma Ra (zoneV ((ma : Int) - 1) A (rlen ma Ra) c1)) (hz2 : ZRes w2 w1.heap.size mb Rb (zoneV ((mb : Int) - 1) B (rlen mb Rb) c2)) :
    Both w ma mb Ra Rb ((((w2.setCell ⟨w.heap.size, 0, none⟩ (.int .i64 ((ma : Int) - 1))).setCell ⟨w.heap.size, 1, none⟩ (.slice A (rlen ma Ra) c1)).setCell ⟨w.heap.size + 1, 0, none⟩ (.int .i64 ((mb : Int) - 1))).setCell ⟨w.heap.size + 1, 1, none⟩ (.slice B (rlen mb Rb) c2)) := by
  have hsz : w.heap.size + 1 + 1 + 1 < W.heap.size := hF.2.2.2.1.lt
  have hs1 := hb1.size
  have z1 := hz1.below hb2
  have q1 := (((z1.setCell (a := ⟨w.heap.size, 0, none⟩) (by simp; omega) (.int .i64 ((ma : Int) - 1))).setCell (a := ⟨w.heap.size, 1, none⟩) (by simp; omega) (.slice A (rlen ma Ra) c1)).setCell (a := ⟨w.heap.size + 1, 0, none⟩) (by simp; omega) (.int .i64 ((mb : Int) - 1))).setCell (a := ⟨w.heap.size + 1, 1, none⟩) (by simp; omega) (.slice B (rlen mb Rb) c2)
  have q2 := (((hz2.setCell (a := ⟨w.heap.size, 0, none⟩) (by simp; omega) (.int .i64 ((ma : Int) - 1))).setCell (a := ⟨w.heap.size, 1, none⟩) (by simp; omega) (.slice A (rlen ma Ra) c1)).setCell (a := ⟨w.heap.size + 1, 0, none⟩) (by simp; omega) (.int .i64 ((mb : Int) - 1))).setCell (a := ⟨w.heap.size + 1, 1, none⟩) (by simp; omega) (.slice B (rlen mb Rb) c2)
  exact ⟨A, c1, B, c2, q1.lower (by omega), q2.lower (by omega), ((hF.below hb1).below hb2).put _ _ _ _⟩

set_option maxRecDepth 100000 in
set_option maxHeartbeats 3200000 in
theorem two_of {w : World} {Na Nb : Int} {Aa Ab : Option Addr} {la lb ca cb ma mb : Nat} {Ra Rb : Option Mat}
    (K1 : ∀ W, Below w.heap.size w W → Calls Tryd.prog 32 #[zoneV Na Aa la ca] W (RetC W ma Ra)) (K2 : ∀ W, Below w.heap.size w W → Calls Tryd.prog 32 #[zoneV Nb Ab lb cb] W (RetC W mb Rb)) :
    Calls Tryd.prog 35 #[zoneV Na Aa la ca, zoneV Nb Ab lb cb] w (RetTwo w ma mb Ra Rb) := by
  have H1 := Lib.hid K1
  have H2 := Lib.hid K2
  have HF := Lib.hid (four_new w (.int .i64 Na) (.int .i64 Nb) (.int .i64 0) (.int .i64 0) (.slice Aa la ca) (.slice Ab lb cb) (.slice none 0 0) (.slice none 0 0)).drew
  have HB := Lib.hid HF.out.2.2.2.2
  clear K1 K2
  go_enter Tryd.func35, Tryd.ntmps35
  go_upto_region 1 with fail
  go_cut [] (fun wx => Both w ma mb Ra Rb wx)
  case first =>
    go_region_with (first
      | (go_at_call 32; ((with_reducible refine (H1.out _ HB.out).mono ?_); rintro e w1 ⟨A, c1, rfl, hz1, hb1⟩); have HB1 := Lib.hid (HB.out.trans (hb1.mono HB.out.size)); have x1 := HF.out.1.below hb1; have x2 := HF.out.2.1.below hb1; have y0 := x1.cell0; have y1 := x1.cell1; have y2 := x2.cell0; have y3 := x2.cell1; have y4 := x1.frozen0; have y5 := x1.frozen1; have y6 := x2.frozen0; have y7 := x2.frozen1)
      | (go_at_call 32; ((with_reducible refine (H2.out _ HB1.out).mono ?_); rintro e w2 ⟨B, c2, rfl, hz2, hb2⟩); have u1 := x1.below hb2; have u2 := x2.below hb2; have t0 := u1.cell0; have t1 := u1.cell1; have t2 := u2.cell0; have t3 := u2.cell1; have t4 := u1.frozen0; have t5 := u1.frozen1; have t6 := u2.frozen0; have t7 := u2.frozen1))
    all_goals go_wp2_with fail
    all_goals go_meet
    all_goals exact both_mk HF.out hb1 hb2 hz1 hz2
  case rest =>
    obtain ⟨A, c1, B, c2, hz1, hz2, hF⟩ := hcut
    have HZ1 := Lib.hid hz1
    have HZ2 := Lib.hid hz2
    have HF3 := Lib.hid hF
    clear hz1 hz2 HF HB
    have k0 := hF.1.cell0
    have k1 := hF.1.cell1
    have k2 := hF.2.1.cell0
    have k3 := hF.2.1.cell1
    have k4 := hF.2.2.1.cell0
    have k5 := hF.2.2.1.cell1
    have k6 := hF.2.2.1.frozen0
    have k7 := hF.2.2.1.frozen1
    have k8 := hF.2.2.2.1.cell0
    have k9 := hF.2.2.2.1.cell1
    have k10 := hF.2.2.2.1.frozen0
    have k11 := hF.2.2.2.1.frozen1
    clear hF
    go_wp2_with fail
    go_region
    all_goals go_wp2_with fail
    have hD4 := (((((HF3.out.2.2.1.set0 (.int .i64 ((ma : Int) - 1))).set1 (.slice A (rlen ma Ra) c1)).other (a := ⟨w.heap.size + 1 + 1 + 1, 0, none⟩) (by simp) (.int .i64 ((mb : Int) - 1))).other (a := ⟨w.heap.size + 1 + 1 + 1, 1, none⟩) (by simp) (.slice B (rlen mb Rb) c2)))
    have hD5 := ((((HF3.out.2.2.2.1.other (a := ⟨w.heap.size + 1 + 1, 0, none⟩) (by simp) (.int .i64 ((ma : Int) - 1))).other (a := ⟨w.heap.size + 1 + 1, 1, none⟩) (by simp) (.slice A (rlen ma Ra) c1)).set0 (.int .i64 ((mb : Int) - 1))).set1 (.slice B (rlen mb Rb) c2))
    have r0 := hD4.cell0
    have r1 := hD4.cell1
    have r2 := hD5.cell0
    have r3 := hD5.cell1
    have hE := (((HF3.out.2.2.2.2.setCell (p := ⟨w.heap.size + 1 + 1, 0, none⟩) (by simp; omega) (.int .i64 ((ma : Int) - 1))).setCell (p := ⟨w.heap.size + 1 + 1, 1, none⟩) (by simp; omega) (.slice A (rlen ma Ra) c1)).setCell (p := ⟨w.heap.size + 1 + 1 + 1, 0, none⟩) (by simp; omega) (.int .i64 ((mb : Int) - 1))).setCell (p := ⟨w.heap.size + 1 + 1 + 1, 1, none⟩) (by simp; omega) (.slice B (rlen mb Rb) c2)
    refine bodyPost_ret (v := .tuple #[zoneV ((ma : Int) - 1) A (rlen ma Ra) c1, zoneV ((mb : Int) - 1) B (rlen mb Rb) c2, .bool (decide (ma = mb))]) ?_ rfl ⟨A, c1, B, c2, rfl, ?_, ?_, ?_⟩
    · simp [results, Tryd.results35, go_sem, r0, r1, r2, r3]
      exact same_n ma mb
    · exact (((HZ1.out.setBox HF3.out.2.2.1 _).setBox (HF3.out.2.2.1.set0 _) _).setBox ((HF3.out.2.2.2.1.other (by simp) _).other (by simp) _) _).setBox (((HF3.out.2.2.2.1.other (by simp) _).other (by simp) _).set0 _) _
    · exact (((HZ2.out.setBox HF3.out.2.2.1 _).setBox (HF3.out.2.2.1.set0 _) _).setBox ((HF3.out.2.2.2.1.other (by simp) _).other (by simp) _) _).setBox (((HF3.out.2.2.2.1.other (by simp) _).other (by simp) _).set0 _) _
    · exact hE.drew
end Go.Proofs.YtlkbapcienjdcaaDoor
