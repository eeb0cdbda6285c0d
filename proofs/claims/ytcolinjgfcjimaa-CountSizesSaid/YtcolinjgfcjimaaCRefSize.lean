/- The contracts of the document's Depth and Size. -/
import Derived.Test.YtcolinjgfcjimaaCRefTell
import Derived.Test.YtcolinjgfcjimaaCRefBelow
import Derived.Deep.LoopGhost
namespace Go.Proofs.Ytcolinjgfcjimaa
open Go.RowKit
attribute [local go_sem ↓] Go.wp_at_zero Go.wp_at_succ

section
variable {W : World} {A : Option Addr} {c lim : Nat} {L : List Nd} {f : Int}
theorem rdep_far (h : RefA W A c L) (hf : ¬ (0 ≤ f ∧ f < (L.length : Int))) : Calls Try.prog 21 #[.agg #[.int .i64 lim, .slice A L.length c], .int .i64 f] W (RetX (depthN L f) W) := by
  have hLfew := h.2
  have hb := Lib.hid ((Below.refl W.heap.size W).alloc (Nat.le_refl _) (.cells #[.int .i64 lim, .slice A L.length c] 27))
  have hk := Blk.new W 27 #[.int .i64 lim, .slice A L.length c]
  have c0 : (W.alloc (.cells #[.int .i64 lim, .slice A L.length c] 27)).cell? ⟨W.heap.size, 1, none⟩ = some (.slice A L.length c) := hk.cell 1
  rw [show depthN L f = 0 from fold_out hf]
  have hr2 : f < 0 ∨ (0 ≤ f ∧ (L.length : Int) ≤ f) := by omega
  clear h hf hk
  rcases hr2 with hr2 | ⟨hr2, hr3⟩
  · go_enter Try.func21, Try.ntmps21
    go_wp2_with fail
    go_ret
    exact ⟨rfl, hb.out⟩
  · go_enter Try.func21, Try.ntmps21
    go_wp2_with fail
    go_ret
    exact ⟨rfl, hb.out⟩
/-- What is asked of Depth at a ref. -/
def DepAt (lim : Nat) (L : List Nd) (f : Int) : Prop := ∀ (W : World) (A : Option Addr) (c : Nat), RefA W A c L → Calls Try.prog 21 #[.agg #[.int .i64 lim, .slice A L.length c], .int .i64 f] W (RetX (depthN L f) W)
set_option maxRecDepth 100000 in
set_option maxHeartbeats 3200000 in
theorem rdep_node (hR : RightL L) {k : Nat} {x : Nd} (hx : L[k]? = some x) (h2 : DepAt lim L x.2.1) (h3 : DepAt lim L x.2.2) : DepAt lim L (k : Int) := by
  intro W A c h
  obtain ⟨x1, x2, x3⟩ := x
  have hcap := h.cap
  have hLfew := h.2
  have hkl := get_len hx
  have hgA : ∃ g, A = some ⟨g, 0, none⟩ := by
    obtain ⟨g, hA, -⟩ := h.node hx
    exact ⟨g, hA⟩
  obtain ⟨gA, rfl⟩ := hgA
  have e : depthN L (k : Int) = 1 + max (depthN L x2) (depthN L x3) := fold_node hR hx
  have b2 : depthN L x2 < 4096 := Nat.lt_of_le_of_lt (depth_cost hR _) (cost_lt hR _)
  have b3 : depthN L x3 < 4096 := Nat.lt_of_le_of_lt (depth_cost hR _) (cost_lt hR _)
  rw [e]
  have HL2 := Lib.hid h2
  have HL3 := Lib.hid h3
  dsimp only at HL2 HL3
  unfold DepAt at HL2 HL3
  obtain ⟨y2, hy2⟩ : ∃ y, depthN L x2 = y := ⟨_, rfl⟩
  obtain ⟨y3, hy3⟩ : ∃ y, depthN L x3 = y := ⟨_, rfl⟩
  rw [hy2] at HL2 b2 ⊢
  rw [hy3] at HL3 b3 ⊢
  have hb := (Below.refl W.heap.size W).alloc (Nat.le_refl _) (.cells #[.int .i64 lim, .slice (some ⟨gA, 0, none⟩) L.length c] 27)
  have hk := Blk.new W 27 #[.int .i64 lim, .slice (some ⟨gA, 0, none⟩) L.length c]
  obtain ⟨W1, hW1⟩ : ∃ W1, W.alloc (.cells #[.int .i64 lim, .slice (some ⟨gA, 0, none⟩) L.length c] 27) = W1 := ⟨_, rfl⟩
  rw [hW1] at hb hk
  have hBx : BoxR W.heap.size lim L (some ⟨gA, 0, none⟩) c W1 := ⟨h.below hb, hk⟩
  have HB := Lib.hid hb.drew
  have HBx := Lib.hid (hBx.below (Below.refl _ _).drew)
  have HX := Lib.hid hx
  obtain ⟨c2, c0, c1⟩ := hBx.cells
  have K1 := Lib.hid (HBx.out.node hx rfl)
  clear h hb hk h2 h3 hy2 hy3 e hx hBx
  go_enter Try.func21, Try.ntmps21
  go_wp2_with fail
  go_region_held3 (fun w => (W.heap.size < w.heap.size ∧ gA < w.heap.size) ∧ w.cell? ⟨W.heap.size, 0, none⟩ = some (.int .i64 lim) ∧ w.cell? ⟨W.heap.size, 1, none⟩ = some (.slice (some ⟨gA, 0, none⟩) L.length c) ∧ w.cell? ⟨gA, k * 3 + 1, none⟩ = some (.int .i64 x2) ∧ w.cell? ⟨gA, k * 3 + 2, none⟩ = some (.int .i64 x3))
    (first | (with_reducible exact K1.out))
    (first
      | (go_at_call 21; ((with_reducible refine (HL2.out _ _ _ HBx.out.ref).mono ?_); rintro e w3 ⟨rfl, hb3⟩); have HBx := Lib.hid (HBx.out.below hb3); have K1 := Lib.hid (HBx.out.node HX.out rfl); have HB3 := Lib.hid (HB.out.trans (hb3.mono HB.out.size)); clear hb3))
  have hcl := K1.out
  obtain ⟨⟨d2, d3⟩, d0, d1, d4, d5⟩ := hcl
  have HBx := Lib.hid (HBx.out.below (Below.refl _ _).drew)
  have K1 := Lib.hid (HBx.out.node HX.out rfl)
  have HB3 := Lib.hid HB3.out.drew
  clear d0 d1 d2 d3 d4 d5
  go_wp2_with fail
  go_region_held3 (fun w => (W.heap.size < w.heap.size ∧ gA < w.heap.size) ∧ w.cell? ⟨W.heap.size, 0, none⟩ = some (.int .i64 lim) ∧ w.cell? ⟨W.heap.size, 1, none⟩ = some (.slice (some ⟨gA, 0, none⟩) L.length c) ∧ w.cell? ⟨gA, k * 3 + 1, none⟩ = some (.int .i64 x2) ∧ w.cell? ⟨gA, k * 3 + 2, none⟩ = some (.int .i64 x3))
    (first | (with_reducible exact K1.out))
    (first
      | (go_at_call 21; ((with_reducible refine (HL3.out _ _ _ HBx.out.ref).mono ?_); rintro e w4 ⟨rfl, hb4⟩); have HBx := Lib.hid (HBx.out.below hb4); have K1 := Lib.hid (HBx.out.node HX.out rfl); have HB4 := Lib.hid (HB3.out.trans (hb4.mono HB3.out.size)); clear hb4))
  by_cases hlt : y2 < y3
  · have hd : decide ((y2 : Int) < (y3 : Int)) = true := decide_eq_true (by omega)
    go_wp2_with fail
    go_ret
    exact ⟨by simp; omega, HB4.out⟩
  · have hd : decide ((y2 : Int) < (y3 : Int)) = false := decide_eq_false (by omega)
    go_wp2_with fail
    go_ret
    exact ⟨by simp; omega, HB4.out⟩
theorem rdep_all (hR : RightL L) : ∀ f, DepAt lim L f := down hR (fun _ hf _ _ _ h => rdep_far h hf) fun _ _ hx _ _ h2 h3 => rdep_node hR hx h2 h3
/-- How many nodes are below f. -/
def SizeX (L : List Nd) (f y : Int) : Prop := if hasP L.length f = true then ∃ R : List Int, R.Nodup ∧ (∀ r, r ∈ R ↔ Reach L f r) ∧ y = (R.countP fun r => decide (0 ≤ r) : Nat) else y = 0
theorem SizeX.one {y z : Int} (h : SizeX L f y) (k : SizeX L f z) : z = y := by
  unfold SizeX at h k
  by_cases hf : hasP L.length f = true
  · rw [if_pos hf] at h k
    obtain ⟨R, h1, h2, rfl⟩ := h
    obtain ⟨Q, k1, k2, rfl⟩ := k
    rw [count_same (perm_same k1 h1 fun r => (k2 r).trans (h2 r).symm)]
  · rw [if_neg hf] at h k
    rw [h, k]
set_option maxRecDepth 100000 in
set_option maxHeartbeats 3200000 in
theorem rsize_any (h : RefA W A c L) (hR : RightL L) : Calls Try.prog 19 #[.agg #[.int .i64 lim, .slice A L.length c], .int .i64 f] W (fun e w' => ∃ y : Int, e = .returned (.int .i64 y) ∧ SizeX L f y ∧ Below W.heap.size W w') := by
  have hb := (Below.refl W.heap.size W).alloc (Nat.le_refl _) (.cells #[.int .i64 lim, .slice A L.length c] 27)
  have hk := Blk.new W 27 #[.int .i64 lim, .slice A L.length c]
  obtain ⟨W1, hW1⟩ : ∃ W1, W.alloc (.cells #[.int .i64 lim, .slice A L.length c] 27) = W1 := ⟨_, rfl⟩
  rw [hW1] at hb hk
  have HBx : Hid (BoxR W.heap.size lim L A c W1) := Lib.hid ⟨h.below hb, hk⟩
  have HB := Lib.hid hb
  have HU := Lib.hid hR
  obtain ⟨c2, c0, c1⟩ := HBx.out.cells
  obtain ⟨hh, hhe⟩ : ∃ hh, hasP L.length f = hh := ⟨_, rfl⟩
  have HH0 : Hid (Calls Try.prog 34 #[.agg #[.int .i64 lim, .slice A L.length c], .int .i64 f] W1 (RetRB (.bool hh) W1)) := Lib.hid (by rw [← hhe]; exact rhas_any HBx.out.ref)
  have HHe := Lib.hid hhe
  clear h hb hk hR hhe
  cases hh
  · go_enter Try.func19, Try.ntmps19
    go_wp2_with (go_at_call 34; ((with_reducible refine HH0.out.mono ?_); rintro e w3 ⟨rfl, hb3⟩))
    go_ret
    exact ⟨0, rfl, by unfold SizeX; rw [HHe.out, if_neg (by decide)], HB.out.trans (hb3.mono HB.out.size)⟩
  · go_enter Try.func19, Try.ntmps19
    go_wp2_with (first
      | (go_at_call 34; ((with_reducible refine HH0.out.mono ?_); rintro e w3 ⟨rfl, hb3⟩); have HBx3 := Lib.hid (HBx.out.below hb3); have HB3 := Lib.hid (HB.out.trans (hb3.mono HB.out.size)); obtain ⟨d2, d0, d1⟩ := HBx3.out.cells; clear hb3)
      | (go_at_call 39; ((with_reducible refine (rbel_any HBx3.out.ref HU.out f).mono ?_); rintro e w5 ⟨g, cc, R, rfl, hrow, hb5, hnd, hrr, hlen⟩); have HB5 := Lib.hid (HB3.out.trans (hb5.mono HB3.out.size)); have HRow := Lib.hid hrow; have HRR := Lib.hid (And.intro hnd hrr); clear hrow hb5 hrr hnd))
    have hg5 : g < w5.heap.size := (HRow.out.lt g rfl).2
    go_loopg [6, 7] R.length (fun gk t6 t7 wr => ∃ i : Nat, i + gk = R.length ∧ t7 = .int .i64 (i : Int) ∧ t6 = .int .i64 (((R.take i).countP fun r => decide (0 ≤ r) : Nat) : Int) ∧ wr = w5)
    case atStart => exact ⟨0, by omega, rfl, by simp, rfl⟩
    case round =>
      rename Nat => g0
      obtain ⟨i, hi, rfl, rfl, rfl⟩ := hrel
      have HI := Lib.hid hi
      clear hi
      by_cases hir : i < R.length
      · obtain ⟨r, hr⟩ : ∃ r, R[i]? = some r := ⟨_, List.getElem?_eq_getElem hir⟩
        have hce := row_cell HRow.out (Below.refl _ _) hr rfl
        have HS := Lib.hid (count_step hr fun r => decide (0 ≤ r))
        have hle : (R.take i).countP (fun r => decide (0 ≤ r)) ≤ i := Nat.le_trans List.countP_le_length (by rw [List.length_take]; omega)
        clear hr
        obtain ⟨q, hq⟩ : ∃ q, (R.take i).countP (fun r => decide (0 ≤ r)) = q := ⟨_, rfl⟩
        rw [hq] at HS hle ⊢
        clear hq
        by_cases hr0 : 0 ≤ r
        · have hd : decide (0 ≤ r) = true := decide_eq_true hr0
          go_wp2_with fail
          have hi := HI.out
          go_roundg (g0 - 1)
          case measure => omega
          case rel => exact ⟨i + 1, by omega, by simp, by rw [HS.out, if_pos (by simpa using hr0)]; simp, rfl⟩
        · have hd : decide (0 ≤ r) = false := decide_eq_false hr0
          go_wp2_with fail
          have hi := HI.out
          go_roundg (g0 - 1)
          case measure => omega
          case rel => exact ⟨i + 1, by omega, by simp, by rw [HS.out, if_neg (by simpa using hr0)]; simp, rfl⟩
      · have hie : i = R.length := by have := HI.out; omega
        subst hie
        go_wp2_with fail
        go_ret
        exact ⟨_, rfl, by unfold SizeX; rw [if_pos HHe.out]; exact ⟨R, HRR.out.1, HRR.out.2, by rw [List.take_length]⟩, HB5.out⟩
end
end Go.Proofs.Ytcolinjgfcjimaa
