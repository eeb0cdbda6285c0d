/- The contracts of the document's with, Join, Meet (of right zones of one N), and the law's same. -/
import Derived.Test.YtimckaphmfidhaaGreatDoorRHas
namespace Go.Proofs.YtimckaphmfidhaaGreatDoor
open Go.RowKit
attribute [local go_sem ↓] Go.wp_at_zero Go.wp_at_succ

/-- A zone's row, as it is handed on (closed or not). -/
structure RZ (m g c : Nat) (E : Mat) (base : Nat) (W : World) : Prop where
  row : W.ownsRow base 3 1 (.slice (some ⟨g, 0, none⟩) (m * m) c) (m * m) ((flatL m E).map (Value.int .i64))
section
variable {W W1 : World} {m g c base : Nat} {E : Mat}
theorem RZ.below (h : RZ m g c E base W) (hb : Below W.heap.size W W1) : RZ m g c E base W1 := ⟨own_kept_below h.row hb⟩
theorem RZ.at_ (h : RZ m g c E base W) {i j : Nat} (hi : i < m) (hj : j < m) : W.cell? ⟨g, i * m + j, none⟩ = some (.int .i64 (E i j)) ∧ W.frozen? ⟨g, i * m + j, none⟩ = false ∧ g < W.heap.size :=
  ⟨(h.row.cellAt _ (by have := spot_lt hi hj; omega)).trans (by rw [List.getElem?_map, flat_at E hi hj]; rfl), h.row.frozenAt _, (h.row.lt g rfl).2⟩
end
def RetRZ (w : World) (m : Nat) (E : Mat) (e : Ending) (w' : World) : Prop := ∃ g c, e = .returned (zoneV ((m : Int) - 1) (some ⟨g, 0, none⟩) (m * m) c) ∧ RZ m g c E w.heap.size w' ∧ Below w.heap.size w w'
section
variable {w : World} {m g c i j : Nat} {E : Mat} {x : Int} {base : Nat}
set_option maxRecDepth 100000 in
set_option maxHeartbeats 6400000 in
theorem rwith_any (h0 : 0 < m) (h7 : m ≤ 7) (hi : i < m) (hj : j < m) (hr : RZ m g c E base w) :
    Calls Tryz.prog 49 #[zoneV ((m : Int) - 1) (some ⟨g, 0, none⟩) (m * m) c, .int .i64 (i : Int), .int .i64 (j : Int), .int .i64 x] w (RetRZ w m (grd E i j x)) := by
  obtain ⟨i0, hi0, hz0, hz1, hz2⟩ := info_parts zinfo3
  have hmm : 0 < m * m := Nat.mul_pos h0 h0
  have hmm2 : m * m ≤ 49 := Nat.mul_le_mul h7 h7
  obtain ⟨e1, e2, e3, e4⟩ := mul_idx h7 hi hj
  obtain ⟨W2, hW2, k0, k1, hb2, hs2⟩ := two_boxes_r w (.int .i64 ((m : Int) - 1)) (.slice (some ⟨g, 0, none⟩) (m * m) c) (.int .i64 0) (.slice none 0 0)
  have hb3 := zboxed W2 (.cells #[] 3)
  have hlit := World.ownsRow_lit (base := w.heap.size + 2) (e := 3) (size := 1) W2 #[] 0 (by omega) (by unfold maxLen; omega) rfl
  rw [hs2] at hlit
  have HLit := Lib.hid hlit
  clear hlit
  have HR := Lib.hid (rowAt_own ((hr.below hb2).below hb3).row)
  have HLen : Hid (((flatL m E).map (Value.int .i64)).length = m * m * 1 ∧ (0 + m * m ≤ maxLen ∧ (0 + m * m) * 8 ≤ 140737488355328) ∧ w.heap.size + 2 ≤ (W2.alloc (.cells #[] 3)).heap.size) := Lib.hid ⟨by rw [List.length_map, flat_len]; omega, by unfold maxLen; omega, by rw [World.size_alloc]; omega⟩
  have HQ : Hid (∀ W4 go co, (W2.alloc (.cells #[] 3)).grownBy W4 (some (w.heap.size + 2)) → W4.ownsRow (w.heap.size + 2) 3 1 (.slice (some ⟨go, 0, none⟩) (m * m) co) (m * m) ((flatL m E).map (Value.int .i64)) →
      Duo W4 w.heap.size 24 (.int .i64 ((m : Int) - 1)) (.slice (some ⟨g, 0, none⟩) (m * m) c) ∧ Duo W4 (w.heap.size + 1) 24 (.int .i64 0) (.slice none 0 0) ∧ Below w.heap.size w W4 ∧ RZ m go co E (w.heap.size + 2) W4 ∧ w.heap.size + 2 ≤ go) := Lib.hid fun W4 go co hg ho => by
    have hb : Below W2.heap.size W2 W4 := hb3.grown hg hb3.size (fun k hk => by injection hk with hk; omega)
    exact ⟨k0.below hb, k1.below hb, hb2.trans (hb.mono hb2.size), ⟨ho⟩, (ho.lt go rfl).1⟩
  have HMm := Lib.hid hmm
  have hg1 : grd E i j x = upd E i j (min (E i j) x) := rfl
  have HX := Lib.hid hg1
  have HIJ := Lib.hid (And.intro hi hj)
  have c0 := k0.cell0
  have c1 := k0.cell1
  have c2 := k0.lt
  obtain ⟨t, ht⟩ : ∃ t, i * m + j = t := ⟨_, rfl⟩
  rw [ht] at e1 e4
  have HT := Lib.hid ht
  have e5 : (t : Int) < ((m * m : Nat) : Int) := by omega
  have e6 : (t : Int) < (m : Int) * (m : Int) := by rw [← Int.natCast_mul]; exact e5
  have hw0 : IntKind.i64.wrap (m : Int) = (m : Int) := IntWalk.i64_in _ (by omega)
  have hw1 : IntKind.i64.wrap ((i : Int) * (m : Int)) = (i : Int) * (m : Int) := IntWalk.i64_in _ (by omega)
  have hw2 : IntKind.i64.wrap ((i : Int) * (m : Int) + (j : Int)) = (t : Int) := by rw [e1]; exact IntWalk.i64_in _ (by omega)
  have hw3 : IntKind.i64.wrap (t : Int) = (t : Int) := IntWalk.i64_in _ (by omega)
  obtain ⟨y, hy⟩ : ∃ y, E i j = y := ⟨_, rfl⟩
  have HY := Lib.hid hy
  clear hr k0 k1 hb2 hb3 hmm hi hj ht hg1 hy
  by_cases hlt : x < y
  · have hd : decide (x < y) = true := decide_eq_true hlt
    go_enter Tryz.func49, Tryz.ntmps49
    go_wp2_with (at_builtin; refine wpList_append_rows rfl _ _ 22 rfl (w.heap.size + 2) 3 i0 (.int .i64 0) 1 8 Tryz.underlying22 hi0 hz0 hz1 hz2 rfl (by decide) _ _ _ rfl HLit.out _ (m * m) ((flatL m E).map (Value.int .i64)) rfl HR.out HLen.out.1 (ints_one _) HLen.out.2.1.1 HLen.out.2.1.2 HLen.out.2.2 ?_; intro v5 w5 ho hg hv; (rw [Nat.zero_add, List.nil_append] at ho); obtain ⟨go, co, hv5, hcq⟩ := row_pos ho HMm.out; subst hv5; have K := Lib.hid (HQ.out _ _ _ hg ho); have k0 := K.out.1.cell0; have k1 := K.out.1.cell1; have k2 := K.out.1.lt; have k3 := K.out.2.1.cell0; have k4 := K.out.2.1.cell1; have k5 := K.out.2.1.frozen0; have k6 := K.out.2.1.frozen1; have k7 := K.out.2.1.lt; have n0 := Nat.ne_of_gt (Nat.lt_of_lt_of_le (Nat.lt_add_of_pos_right (Nat.zero_lt_succ 1)) K.out.2.2.2.2); have n1 := Nat.ne_of_gt (Nat.lt_of_lt_of_le (Nat.lt_succ_self (w.heap.size + 1)) K.out.2.2.2.2); have kk := K.out.2.2.2.1.at_ HIJ.out.1 HIJ.out.2; (rw [HT.out, HY.out] at kk); obtain ⟨l0, l1, l2⟩ := kk; clear ho hg hv)
    have hrow := K.out.2.2.2.1.row
    obtain ⟨hs, hg2⟩ := hrow.stored (i * m + j) (.int .i64 x)
    rw [← List.map_set, flat_set E HIJ.out.2 x] at hs
    rw [HT.out] at hs
    have hD := (K.out.2.1.other (a := ⟨go, t, none⟩) (fun e => n1 e.symm) (.int .i64 x))
    have hb := K.out.2.2.1.setCell (p := ⟨go, t, none⟩) (by have := K.out.2.2.2.2; show w.heap.size ≤ go; omega) (.int .i64 x)
    have hp := res_put hD hb (by omega) (.int .i64 ((m : Int) - 1)) (.slice (some ⟨go, 0, none⟩) (m * m) co)
    have hr' := row_put hD hs (.int .i64 ((m : Int) - 1)) (.slice (some ⟨go, 0, none⟩) (m * m) co)
    have q0 := hp.1.cell0
    have q1 := hp.1.cell1
    refine bodyPost_ret (v := zoneV ((m : Int) - 1) (some ⟨go, 0, none⟩) (m * m) co) (by simp [results, Tryz.results49, go_sem, q0, q1]) rfl ⟨go, co, rfl, ⟨own_lower (show World.ownsRow _ (w.heap.size + 2) _ _ _ _ _ from ?_) (by omega)⟩, hp.2⟩
    rw [HX.out, HY.out, show min y x = x by omega]
    exact hr'
  · have hd : decide (x < y) = false := decide_eq_false hlt
    go_enter Tryz.func49, Tryz.ntmps49
    go_wp2_with (at_builtin; refine wpList_append_rows rfl _ _ 22 rfl (w.heap.size + 2) 3 i0 (.int .i64 0) 1 8 Tryz.underlying22 hi0 hz0 hz1 hz2 rfl (by decide) _ _ _ rfl HLit.out _ (m * m) ((flatL m E).map (Value.int .i64)) rfl HR.out HLen.out.1 (ints_one _) HLen.out.2.1.1 HLen.out.2.1.2 HLen.out.2.2 ?_; intro v5 w5 ho hg hv; (rw [Nat.zero_add, List.nil_append] at ho); obtain ⟨go, co, hv5, hcq⟩ := row_pos ho HMm.out; subst hv5; have K := Lib.hid (HQ.out _ _ _ hg ho); have k0 := K.out.1.cell0; have k1 := K.out.1.cell1; have k2 := K.out.1.lt; have k3 := K.out.2.1.cell0; have k4 := K.out.2.1.cell1; have k5 := K.out.2.1.frozen0; have k6 := K.out.2.1.frozen1; have k7 := K.out.2.1.lt; have n0 := Nat.ne_of_gt (Nat.lt_of_lt_of_le (Nat.lt_add_of_pos_right (Nat.zero_lt_succ 1)) K.out.2.2.2.2); have n1 := Nat.ne_of_gt (Nat.lt_of_lt_of_le (Nat.lt_succ_self (w.heap.size + 1)) K.out.2.2.2.2); have kk := K.out.2.2.2.1.at_ HIJ.out.1 HIJ.out.2; (rw [HT.out, HY.out] at kk); obtain ⟨l0, l1, l2⟩ := kk; clear ho hg hv)
    have hp := res_put K.out.2.1 K.out.2.2.1 (by omega) (.int .i64 ((m : Int) - 1)) (.slice (some ⟨go, 0, none⟩) (m * m) co)
    have hr' := row_put K.out.2.1 K.out.2.2.2.1.row (.int .i64 ((m : Int) - 1)) (.slice (some ⟨go, 0, none⟩) (m * m) co)
    have q0 := hp.1.cell0
    have q1 := hp.1.cell1
    refine bodyPost_ret (v := zoneV ((m : Int) - 1) (some ⟨go, 0, none⟩) (m * m) co) (by simp [results, Tryz.results49, go_sem, q0, q1]) rfl ⟨go, co, rfl, ⟨own_lower (show World.ownsRow _ (w.heap.size + 2) _ _ _ _ _ from ?_) (by omega)⟩, hp.2⟩
    rw [flat_congr (show Same m (grd E i j x) E from fun a b _ _ => by
      rw [HX.out, HY.out, show min y x = y by omega]
      unfold upd
      split
      · rename_i e
        rw [e.1, e.2, HY.out]
      · rfl)]
    exact hr'
end
end Go.Proofs.YtimckaphmfidhaaGreatDoor
