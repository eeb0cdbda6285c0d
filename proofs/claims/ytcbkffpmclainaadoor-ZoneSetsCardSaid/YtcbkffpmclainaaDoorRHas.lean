/- The contracts of the document's Get and Has, of right zones. -/
import Derived.Test.YtcbkffpmclainaaDoorRSets
import Derived.Test.YtcbkffpmclainaaDoorPut
import Derived.Test.YtcbkffpmclainaaDoorHasMore
import Derived.Test.YtcbkffpmclainaaDoorHasNil
import Derived.BigRegion
import Derived.Deep.LoopGhost
namespace Go.Proofs.YtcbkffpmclainaaDoor
open Go.RowKit
attribute [local go_sem ↓] Go.wp_at_zero Go.wp_at_succ

theorem RowAt.below {W W1 : World} {x : Value} {m : Nat} {ys : List Value} (h : RowAt W x m ys) (hb : Below W.heap.size W W1) : RowAt W1 x m ys := by
  rcases h with ⟨h1, h2, h3⟩ | ⟨ad, c, h1, h2⟩
  · exact .inl ⟨h1, h2, h3⟩
  · exact .inr ⟨ad, c, h1, fun j u hj => (hb.cell (World.block_lt_of_cell? W _ (h2 j u hj))).trans (h2 j u hj)⟩
set_option maxRecDepth 100000 in
set_option maxHeartbeats 3200000 in
theorem rget_in {w : World} {m g c i j : Nat} {C : Mat} (h7 : m ≤ 7) (hp : RP m g c C w) (hi : i < m) (hj : j < m) :
    Calls Tryd.prog 65 #[zoneV ((m : Int) - 1) (some ⟨g, 0, none⟩) (m * m) c, .int .i64 (i : Int), .int .i64 (j : Int)] w (RetI w (C i j)) := by
  obtain ⟨e1, e2, e3, e4⟩ := mul_idx h7 hi hj
  have hb := zboxed w (.cells #[.int .i64 ((m : Int) - 1), .slice (some ⟨g, 0, none⟩) (m * m) c] 24)
  have k := Duo.new w 24 (.int .i64 ((m : Int) - 1)) (.slice (some ⟨g, 0, none⟩) (m * m) c)
  have hat : ∀ t, t = i * m + j → (w.alloc (.cells #[.int .i64 ((m : Int) - 1), .slice (some ⟨g, 0, none⟩) (m * m) c] 24)).cell? ⟨g, t, none⟩ = some (.int .i64 (C i j)) ∧ g < (w.alloc (.cells #[.int .i64 ((m : Int) - 1), .slice (some ⟨g, 0, none⟩) (m * m) c] 24)).heap.size := fun t ht => by
    subst ht
    have := (hp.below hb).row
    exact ⟨(this.cellAt _ (by omega)).trans (by rw [List.getElem?_map, flat_at C hi hj]; rfl), (this.lt g rfl).2⟩
  have HB := Lib.hid hb
  obtain ⟨W1, hW1⟩ : ∃ W1, w.alloc (.cells #[.int .i64 ((m : Int) - 1), .slice (some ⟨g, 0, none⟩) (m * m) c] 24) = W1 := ⟨_, rfl⟩
  rw [hW1] at HB k hat
  have c0 := k.cell0
  have c1 := k.cell1
  have c2 := k.lt
  obtain ⟨x, hx⟩ : ∃ x, C i j = x := ⟨_, rfl⟩
  rw [hx] at hat ⊢
  obtain ⟨t, ht⟩ : ∃ t, i * m + j = t := ⟨_, rfl⟩
  obtain ⟨c3, c4⟩ := hat t ht.symm
  rw [ht] at e1 e4
  have q0 : (((m * m : Nat) : Int) == 0) = false := by simp; omega
  have q1 : decide (m * m = 0) = false := decide_eq_false (by omega)
  have q3 : ((m : Int) * (m : Int) == 0) = false := by rw [← Int.natCast_mul]; exact q0
  have q4 : decide ((m : Int) * (m : Int) = 0) = false := by rw [← Int.natCast_mul]; exact decide_eq_false (by omega)
  have d1 : decide ((i : Int) < 0) = false := decide_eq_false (by omega)
  have d2 : decide ((m : Int) - 1 < (i : Int)) = false := decide_eq_false (by omega)
  have d3 : decide ((j : Int) < 0) = false := decide_eq_false (by omega)
  have d4 : decide ((m : Int) - 1 < (j : Int)) = false := decide_eq_false (by omega)
  have e5 : (t : Int) < ((m * m : Nat) : Int) := by omega
  have e6 : (t : Int) < (m : Int) * (m : Int) := by rw [← Int.natCast_mul]; exact e5
  have hw0 : IntKind.i64.wrap (m : Int) = (m : Int) := IntWalk.i64_in _ (by omega)
  have hw1 : IntKind.i64.wrap ((i : Int) * (m : Int)) = (i : Int) * (m : Int) := IntWalk.i64_in _ (by omega)
  have hw2 : IntKind.i64.wrap ((i : Int) * (m : Int) + (j : Int)) = (t : Int) := by rw [e1]; exact IntWalk.i64_in _ (by omega)
  have hw3 : IntKind.i64.wrap (t : Int) = (t : Int) := IntWalk.i64_in _ (by omega)
  clear hat k hb hx ht hp hi hj
  go_enter Tryd.func65, Tryd.ntmps65
  go_wp2_with fail
  go_ret
  exact ⟨rfl, HB.out⟩
/-- While Has goes: the box, the row of the zone, that of the point behind 0. -/
structure RH (w : World) (m g c gq n : Nat) (C : Mat) (f : Nat → Int) (W : World) : Prop where
  low : Below w.heap.size w W
  zb : Duo W w.heap.size 24 (.int .i64 ((m : Int) - 1)) (.slice (some ⟨g, 0, none⟩) (m * m) c)
  row : RP m g c C W
  q : PtAt W gq 0 (n + 1) (vof f)
section
variable {w W W1 : World} {m g c gq n : Nat} {C : Mat} {f : Nat → Int}
theorem RH.below (h : RH w m g c gq n C f W) (hb : Below W.heap.size W W1) : RH w m g c gq n C f W1 := ⟨h.low.trans (hb.mono h.low.size), h.zb.below hb, h.row.below hb, h.q.below hb⟩
theorem RH.cells (h : RH w m g c gq n C f W) : (W.cell? ⟨w.heap.size, 0, none⟩ = some (.int .i64 ((m : Int) - 1)) ∧ W.cell? ⟨w.heap.size, 1, none⟩ = some (.slice (some ⟨g, 0, none⟩) (m * m) c)) ∧ w.heap.size < W.heap.size := ⟨⟨h.zb.cell0, h.zb.cell1⟩, h.zb.lt⟩
theorem RH.at_ (h : RH w m g c gq n C f W) {k : Nat} (hk : k ≤ n) : W.cell? ⟨gq, k, none⟩ = some (.int .i64 (vof f k)) ∧ gq < W.heap.size := by
  have := h.q.2 k (by omega)
  rw [Nat.zero_add] at this
  exact ⟨this, h.q.1⟩
end
theorem nums_cons (n : Nat) (f : Nat → Int) : #[Value.int .i64 0].toList ++ nums n f = nums (n + 1) (vof f) := by
  unfold nums
  rw [List.range_succ_eq_map, List.map_cons, List.map_map]
  rfl
theorem inB_of {x : Int} (h : -1152921504606846976 ≤ x ∧ x ≤ 1152921504606846976) : inB x = true := inB_yes h.1 h.2
theorem inB_bd {c : Int} (h : inB c = true) : -1152921504606846976 ≤ c ∧ c ≤ 1152921504606846976 := by
  unfold inB at h
  simpa using h
section
variable {w : World} {m n cp ba ca : Nat} {A P : Option Addr} {f : Nat → Int} {R : Option Mat}
set_option maxRecDepth 100000 in
set_option maxHeartbeats 1600000 in
theorem rhas_none (_ha : ZRes w ba m none (zoneV ((m : Int) - 1) A (rlen m none) ca)) :
    Calls Tryd.prog 32 #[zoneV ((m : Int) - 1) A (rlen m none) ca, .slice P n cp] w (RetB w false) := by
  have hb := zboxed w (.cells #[.int .i64 ((m : Int) - 1), .slice A 0 ca] 24)
  have k := Duo.new w 24 (.int .i64 ((m : Int) - 1)) (.slice A 0 ca)
  have e0 : rlen m (none : Option Mat) = 0 := rfl
  rw [e0]
  obtain ⟨W1, hW1⟩ : ∃ W1, w.alloc (.cells #[.int .i64 ((m : Int) - 1), .slice A 0 ca] 24) = W1 := ⟨_, rfl⟩
  rw [hW1] at k hb
  have HB := Lib.hid hb
  have c0 := k.cell0
  have c1 := k.cell1
  have c2 := k.lt
  clear e0 k hb
  go_enter Tryd.func32, Tryd.ntmps32
  go_wp2_with fail
  go_ret
  exact ⟨rfl, HB.out⟩
set_option maxRecDepth 100000 in
set_option maxHeartbeats 1600000 in
theorem rhas_len {C : Mat} (h0 : 0 < m) (hn : n + 1 ≠ m) (_ha : ZRes w ba m (some C) (zoneV ((m : Int) - 1) A (rlen m (some C)) ca)) :
    Calls Tryd.prog 32 #[zoneV ((m : Int) - 1) A (rlen m (some C)) ca, .slice P n cp] w (RetB w false) := by
  have hb := zboxed w (.cells #[.int .i64 ((m : Int) - 1), .slice A (m * m) ca] 24)
  have k := Duo.new w 24 (.int .i64 ((m : Int) - 1)) (.slice A (m * m) ca)
  have e0 : rlen m (some C) = m * m := rfl
  rw [e0]
  obtain ⟨W1, hW1⟩ : ∃ W1, w.alloc (.cells #[.int .i64 ((m : Int) - 1), .slice A (m * m) ca] 24) = W1 := ⟨_, rfl⟩
  rw [hW1] at k hb
  have HB := Lib.hid hb
  have c0 := k.cell0
  have c1 := k.cell1
  have c2 := k.lt
  have hmm : 0 < m * m := Nat.mul_pos h0 h0
  have q0 : (((m * m : Nat) : Int) == 0) = false := by simp; omega
  have q1 : decide (m * m = 0) = false := decide_eq_false (by omega)
  have q3 : ((m : Int) * (m : Int) == 0) = false := by rw [← Int.natCast_mul]; exact q0
  have q4 : decide ((m : Int) * (m : Int) = 0) = false := by rw [← Int.natCast_mul]; exact decide_eq_false (by omega)
  have d1 : ((n : Int) == (m : Int) - 1) = false := by simp; omega
  have d2 : decide ((n : Int) = (m : Int) - 1) = false := decide_eq_false (by omega)
  have d3 : ((n : Int) != (m : Int) - 1) = true := by simp; omega
  clear e0 k hb hmm hn h0
  go_enter Tryd.func32, Tryd.ntmps32
  go_wp2_with fail
  go_ret
  exact ⟨rfl, HB.out⟩
set_option maxRecDepth 100000 in
set_option maxHeartbeats 6400000 in
theorem rhas_pts {C : Mat} (h0 : 0 < m) (h7 : m ≤ 7) (hn : n + 1 = m) (ha : ZRes w ba m (some C) (zoneV ((m : Int) - 1) A (rlen m (some C)) ca)) (hr : RowAt w (.slice P n cp) n (nums n f)) :
    Calls Tryd.prog 32 #[zoneV ((m : Int) - 1) A (rlen m (some C)) ca, .slice P n cp] w (RetB w (hasO m n f (some C))) := by
  obtain ⟨i0, hi, hz0, hz1, hz2⟩ := info_parts zinfo3
  obtain ⟨g, rfl, p1, hC⟩ := rp_of ha
  have e0 : rlen m (some C) = m * m := rfl
  rw [e0]
  have k0 := Duo.new w 24 (.int .i64 ((m : Int) - 1)) (.slice (some ⟨g, 0, none⟩) (m * m) ca)
  have hb1 := zboxed w (.cells #[.int .i64 ((m : Int) - 1), .slice (some ⟨g, 0, none⟩) (m * m) ca] 24)
  obtain ⟨W1, hW1⟩ : ∃ W1, w.alloc (.cells #[.int .i64 ((m : Int) - 1), .slice (some ⟨g, 0, none⟩) (m * m) ca] 24) = W1 := ⟨_, rfl⟩
  rw [hW1] at k0 hb1
  have c0 := k0.cell0
  have c1 := k0.cell1
  have c2 := k0.lt
  have hb2 := zboxed W1 (.cells #[.int .i64 0] 3)
  have HLit := Lib.hid (World.ownsRow_lit (base := w.heap.size) (e := 3) (size := 1) W1 #[.int .i64 0] 1 hb1.size (by unfold maxLen; omega) rfl)
  have HR := Lib.hid ((hr.below hb1).below hb2)
  have HLen : Hid ((nums n f).length = n * 1 ∧ (1 + n ≤ maxLen ∧ (1 + n) * 8 ≤ 140737488355328) ∧ w.heap.size ≤ (W1.alloc (.cells #[.int .i64 0] 3)).heap.size) := Lib.hid ⟨by rw [nums_len]; omega, by unfold maxLen; omega, Nat.le_trans hb1.size hb2.size⟩
  have HQ : Hid (∀ W2 gq cq, (W1.alloc (.cells #[.int .i64 0] 3)).grownBy W2 (some W1.heap.size) → W2.ownsRow w.heap.size 3 1 (.slice (some ⟨gq, 0, none⟩) (1 + n) cq) (1 + n) (nums (n + 1) (vof f)) → RH w m g ca gq n C f W2) := Lib.hid fun W2 gq cq hg ho => by
    have hb : Below W1.heap.size W1 W2 := hb2.grown hg hb2.size (fun k hk => by injection hk with hk; omega)
    rw [Nat.add_comm 1 n] at ho
    exact ⟨hb1.trans (hb.mono hb1.size), k0.below hb, (p1.below hb1).below hb, ptAt_own ho⟩
  have HGet := Lib.hid (fun (i j : Nat) (hi : i < m) (hj : j < m) (W : World) (h : RH w m g ca 0 n C f W ∨ ∃ gq, RH w m g ca gq n C f W) => rget_in (c := ca) h7 (h.elim (fun h => h.row) (fun ⟨_, h⟩ => h.row)) hi hj)
  obtain ⟨bl, hbl⟩ : ∃ r, hasO m n f (some C) = r := ⟨_, rfl⟩
  have HNo1 : Hid (∀ i, i < m → inB (vof f i) = false → bl = false) := Lib.hid fun i hi hv => by
    rw [← hbl]
    cases e : hasO m n f (some C)
    · rfl
    · obtain ⟨D, -, -, hp⟩ := hasO_iff.1 e
      rw [inB_of (hp.whole i hi)] at hv
      cases hv
  have HNo2 : Hid (∀ i j, i < m → j < m → ¬ vof f i - vof f j ≤ C i j → bl = false) := Lib.hid fun i j hi hj hv => by
    rw [← hbl]
    cases e : hasO m n f (some C)
    · rfl
    · obtain ⟨D, hD, -, hp⟩ := hasO_iff.1 e
      injection hD with hD
      subst hD
      exact absurd (hp.holds i j hi hj) hv
  have HYes : Hid ((∀ a, a < m → inB (vof f a) = true) → (∀ a b, a < m → b < m → vof f a - vof f b ≤ C a b) → bl = true) := Lib.hid fun h1 h2 => by
    rw [← hbl]
    exact hasO_iff.2 ⟨C, rfl, hn, rfl, fun a ha => inB_bd (h1 a ha), h2⟩
  have HCb := Lib.hid (fun i j (hi : i < m) (hj : j < m) => hC.bd hi hj)
  rw [hbl]
  have hmm : 0 < m * m := Nat.mul_pos h0 h0
  have q0 : (((m * m : Nat) : Int) == 0) = false := by simp; omega
  have q1 : decide (m * m = 0) = false := decide_eq_false (by omega)
  have q3 : ((m : Int) * (m : Int) == 0) = false := by rw [← Int.natCast_mul]; exact q0
  have q4 : decide ((m : Int) * (m : Int) = 0) = false := by rw [← Int.natCast_mul]; exact decide_eq_false (by omega)
  have d1 : ((n : Int) == (m : Int) - 1) = true := by simp; omega
  have d2 : decide ((n : Int) = (m : Int) - 1) = true := decide_eq_true (by omega)
  have d3 : ((n : Int) != (m : Int) - 1) = false := by simp; omega
  have HN := Lib.hid (And.intro hn h7)
  clear ha hr k0 hb1 hb2 p1 hC hbl hn hmm h0
  go_enter Tryd.func32, Tryd.ntmps32
  go_wp2_with (at_builtin; refine wpList_append_rows rfl _ _ 22 rfl w.heap.size 3 i0 (.int .i64 0) 1 8 Tryd.underlying22 hi hz0 hz1 hz2 rfl (by decide) _ _ _ rfl HLit.out _ n (nums n f) rfl HR.out HLen.out.1 (nums_one _ _) HLen.out.2.1.1 HLen.out.2.1.2 HLen.out.2.2 ?_; intro v5 w5 ho hg hv; (rw [nums_cons] at ho); obtain ⟨gq, cq, hv5, hcq⟩ := row_pos ho (Nat.lt_of_lt_of_le Nat.zero_lt_one (Nat.le_add_right 1 n)); subst hv5; have M5 := Lib.hid (HQ.out _ _ _ hg ho); clear ho hg hv)
  clear c0 c1 c2
  go_loopg [6] m (fun gk s wr => ∃ i : Nat, i + gk = m ∧ s = .int .i64 (i : Int) ∧ RH w m g ca gq n C f wr ∧ ∀ a, a < i → inB (vof f a) = true ∧ ∀ b, b < m → inB (vof f b) = true → vof f a - vof f b ≤ C a b)
  case atStart => exact ⟨0, by omega, rfl, M5.out, fun a ha => absurd ha (Nat.not_lt_zero _)⟩
  case round =>
    rename Nat => g0
    obtain ⟨i, hi', rfl, hM, hall⟩ := hrel
    have HI := Lib.hid hi'
    have M := Lib.hid hM
    have HAll := Lib.hid hall
    clear hi' hM hall M5
    obtain ⟨⟨c0, c1⟩, c2⟩ := M.out.cells
    by_cases him : i < m
    · have d4 : decide ((i : Int) ≤ (m : Int) - 1) = true := decide_eq_true (by omega)
      obtain ⟨p0, p1⟩ := M.out.at_ (show i ≤ n by have := HN.out; omega)
      have i1 : (i : Int) < 1 + (n : Int) := by have := HN.out; omega
      have i2 : (i : Int) < (n : Int) + 1 := by have := HN.out; omega
      have HX := Lib.hid (HNo1.out i him)
      cases hin : inB (vof f i)
      · have HIn : Hid (∀ W, Calls Tryd.prog 69 #[.int .i64 (vof f i)] W (RetB W false)) := Lib.hid fun W => (rin_any (vof f i) W).mono fun e W1 h => ⟨by rw [h.1, hin], by rw [← h.2]; exact Below.refl _ _⟩
        obtain rfl : bl = false := HX.out hin
        obtain ⟨x, hx⟩ : ∃ x, vof f i = x := ⟨_, rfl⟩
        rw [hx] at p0 HIn
        clear hin hx
        go_wp2_with (go_at_call 69; ((with_reducible refine (HIn.out _).mono ?_); rintro e w6 ⟨rfl, hb6⟩); have M6 := Lib.hid (M.out.below hb6); clear hb6)
        go_ret
        exact ⟨rfl, M6.out.low⟩
      · have HIn : Hid (∀ W, Calls Tryd.prog 69 #[.int .i64 (vof f i)] W (RetB W true)) := Lib.hid fun W => (rin_any (vof f i) W).mono fun e W1 h => ⟨by rw [h.1, hin], by rw [← h.2]; exact Below.refl _ _⟩
        have HIi := Lib.hid hin
        obtain ⟨xi, hxi⟩ : ∃ x, vof f i = x := ⟨_, rfl⟩
        rw [hxi] at p0 HIn
        have HXi := Lib.hid hxi
        clear hin hxi
        go_wp2_with (go_at_call 69; ((with_reducible refine (HIn.out _).mono ?_); rintro e w6 ⟨rfl, hb6⟩); have M6 := Lib.hid (M.out.below hb6); clear hb6)
        clear HIn c0 c1 c2 p0 p1
        go_loopg [7] m (fun gk s wr => ∃ j : Nat, j + gk = m ∧ s = .int .i64 (j : Int) ∧ RH w m g ca gq n C f wr ∧ ∀ b, b < j → inB (vof f b) = true → vof f i - vof f b ≤ C i b)
        case atStart => exact ⟨0, by omega, rfl, M6.out, fun b hb => absurd hb (Nat.not_lt_zero _)⟩
        case round =>
          rename Nat => g1
          clear M M6
          obtain ⟨j, hj', rfl, hM, hal2⟩ := hrel
          have HJ := Lib.hid hj'
          have M := Lib.hid hM
          have HAl2 := Lib.hid hal2
          clear hj' hM hal2
          obtain ⟨⟨c0, c1⟩, c2⟩ := M.out.cells
          by_cases hjm : j < m
          · have d5 : decide ((j : Int) ≤ (m : Int) - 1) = true := decide_eq_true (by omega)
            have i3 : (j : Int) < 1 + (n : Int) := by have := HN.out; omega
            have i4 : (j : Int) < (n : Int) + 1 := by have := HN.out; omega
            have wj : IntKind.i64.wrap ((j : Int) + 1) = (j : Int) + 1 := IntWalk.i64_in _ (by have := HN.out; omega)
            go_wp2_with fail
            have MJ := Lib.hid (M.out.below (Below.refl _ _).drew)
            have hpi := M.out.at_ (show i ≤ n by have := HN.out; omega)
            have hpj := M.out.at_ (show j ≤ n by have := HN.out; omega)
            have HS' := Lib.hid (fun (W : World) (h : RH w m g ca gq n C f W) => And.intro h.cells.1.1 (And.intro h.cells.1.2 (And.intro (h.at_ (show i ≤ n by have := HN.out; omega)).1 (h.at_ (show j ≤ n by have := HN.out; omega)).1)))
            have hgq : gq < wr.heap.size := hpi.2
            have HG := Lib.hid (fun (W : World) (h : RH w m g ca gq n C f W) => HGet.out i j him hjm W (.inr ⟨gq, h⟩))
            have hbi := inB_bd HIi.out
            have hcb := HCb.out i j him hjm
            have HN2 := Lib.hid (HNo2.out i j him hjm)
            cases hin : inB (vof f j)
            · have HIn : Hid (∀ W, Calls Tryd.prog 69 #[.int .i64 (vof f j)] W (RetB W false)) := Lib.hid fun W => (rin_any (vof f j) W).mono fun e W1 h => ⟨by rw [h.1, hin], by rw [← h.2]; exact Below.refl _ _⟩
              have HY : Hid (∀ b, b < j + 1 → inB (vof f b) = true → vof f i - vof f b ≤ C i b) := Lib.hid fun b hb hi' => by
                by_cases e : b = j
                · subst e; rw [hin] at hi'; cases hi'
                · exact HAl2.out b (by omega) hi'
              obtain ⟨xj, hxj⟩ : ∃ x, vof f j = x := ⟨_, rfl⟩
              rw [HXi.out, hxj] at HS'
              rw [hxj] at HIn
              have HS := HS'
              clear HS' hin hxj hbi hcb HN2 hpi hpj c0 c1 c2
              refine wp_region_held_drew (S := fun w' => w'.cell? ⟨w.heap.size, 0, none⟩ = some (.int .i64 ((m : Int) - 1)) ∧ w'.cell? ⟨w.heap.size, 1, none⟩ = some (.slice (some ⟨g, 0, none⟩) (m * m) ca) ∧ w'.cell? ⟨gq, i, none⟩ = some (.int .i64 xi) ∧ w'.cell? ⟨gq, j, none⟩ = some (.int .i64 xj)) (by kernel_rfl) (HS.out _ MJ.out) (fun hH0 => ?_)
              refine wpAnyH_take (i := 0) (oi := ⟨some 40, _, _, _, _, _⟩) (v := ?_) rfl (by kernel_rfl) (by kernel_rfl) (by kernel_rfl) (fun _ _ _ h => h) (Or.inl ⟨by rfl, ?_⟩) hH0 ?_
              rotate_left
              · intro w hSw
                try dsimp only at hSw
                go_simp
                try with_reducible rfl
              try simp only [Act.put, List.setIfInBounds_toArray, List.set_cons_zero, List.set_cons_succ]
              refine wpAnyH_take (i := 1) (oi := ⟨some 41, _, _, _, _, _⟩) (v := ?_) rfl (by kernel_rfl) (by kernel_rfl) (by kernel_rfl) (fun _ _ _ h => h) (Or.inl ⟨by rfl, ?_⟩) hH0 ?_
              rotate_left
              · intro w hSw
                try dsimp only at hSw
                go_simp
                try with_reducible rfl
              try simp only [Act.put, List.setIfInBounds_toArray, List.set_cons_zero, List.set_cons_succ]
              refine wpAnyH_take (i := 2) (oi := ⟨some 42, _, _, _, _, _⟩) (v := ?_) rfl (by kernel_rfl) (by kernel_rfl) (by kernel_rfl) (fun _ _ _ h => h) (Or.inl ⟨by rfl, ?_⟩) hH0 ?_
              rotate_left
              · intro w hSw
                try dsimp only at hSw
                go_simp
                try with_reducible rfl
              try simp only [Act.put, List.setIfInBounds_toArray, List.set_cons_zero, List.set_cons_succ]
              refine wpAnyH_take (i := 3) (oi := ⟨some 43, _, _, _, _, _⟩) (v := ?_) rfl (by kernel_rfl) (by kernel_rfl) (by kernel_rfl) (fun _ _ _ h => h) (Or.inl ⟨by rfl, ?_⟩) hH0 ?_
              rotate_left
              · intro w hSw
                try dsimp only at hSw
                go_simp
                try with_reducible rfl
              try simp only [Act.put, List.setIfInBounds_toArray, List.set_cons_zero, List.set_cons_succ]
              refine wpAnyH_ready (rs := [4]) (by kernel_rfl) (by simp) ?_
              refine AllReadyH.cons (o := ⟨some 44, _, _, _, _, _⟩) rfl (fun K hK => ?_) AllReadyH.nil
              go_simp
              refine (HIn.out _).mono ?_
              rintro e w6 ⟨rfl, hb6⟩
              have M6 := Lib.hid (MJ.out.below hb6); clear hb6
              go_wp2_with fail
              refine hK.out _ _ (HS.out _ M6.out) (fun hH1 => ?_)
              clear hK K hH0
              try simp only [Act.put, List.setIfInBounds_toArray, List.set_cons_zero, List.set_cons_succ]
              refine wpAnyH_take (i := 5) (oi := ⟨some 45, _, _, _, _, _⟩) (v := ?_) rfl (by kernel_rfl) (by kernel_rfl) (by kernel_rfl) (fun _ _ _ h => h) (Or.inl ⟨by rfl, ?_⟩) hH1 ?_
              rotate_left
              · intro w hSw
                try dsimp only at hSw
                go_simp
                try with_reducible rfl
              try simp only [Act.put, List.setIfInBounds_toArray, List.set_cons_zero, List.set_cons_succ]
              refine wpAnyH_take (i := 6) (oi := ⟨some 46, _, _, _, _, _⟩) (v := undef) rfl (by kernel_rfl) (by kernel_rfl) (by kernel_rfl) (fun _ _ _ h => h) (Or.inr ⟨by rfl, rfl⟩) hH1 ?_
              try simp only [Act.put, List.setIfInBounds_toArray, List.set_cons_zero, List.set_cons_succ]
              refine wpAnyH_take (i := 7) (oi := ⟨some 47, _, _, _, _, _⟩) (v := undef) rfl (by kernel_rfl) (by kernel_rfl) (by kernel_rfl) (fun _ _ _ h => h) (Or.inr ⟨by rfl, rfl⟩) hH1 ?_
              try simp only [Act.put, List.setIfInBounds_toArray, List.set_cons_zero, List.set_cons_succ]
              refine wpAnyH_take (i := 8) (oi := ⟨some 48, _, _, _, _, _⟩) (v := undef) rfl (by kernel_rfl) (by kernel_rfl) (by kernel_rfl) (fun _ _ _ h => h) (Or.inr ⟨by rfl, rfl⟩) hH1 ?_
              try simp only [Act.put, List.setIfInBounds_toArray, List.set_cons_zero, List.set_cons_succ]
              refine wpAnyH_take (i := 9) (oi := ⟨some 49, _, _, _, _, _⟩) (v := undef) rfl (by kernel_rfl) (by kernel_rfl) (by kernel_rfl) (fun _ _ _ h => h) (Or.inr ⟨by rfl, rfl⟩) hH1 ?_
              try simp only [Act.put, List.setIfInBounds_toArray, List.set_cons_zero, List.set_cons_succ]
              refine wpAnyH_take (i := 10) (oi := ⟨some 50, _, _, _, _, _⟩) (v := undef) rfl (by kernel_rfl) (by kernel_rfl) (by kernel_rfl) (fun _ _ _ h => h) (Or.inr ⟨by rfl, rfl⟩) hH1 ?_
              try simp only [Act.put, List.setIfInBounds_toArray, List.set_cons_zero, List.set_cons_succ]
              refine wpAnyH_take (i := 11) (oi := ⟨some 51, _, _, _, _, _⟩) (v := undef) rfl (by kernel_rfl) (by kernel_rfl) (by kernel_rfl) (fun _ _ _ h => h) (Or.inr ⟨by rfl, rfl⟩) hH1 ?_
              try simp only [Act.put, List.setIfInBounds_toArray, List.set_cons_zero, List.set_cons_succ]
              refine wpAnyH_take (i := 12) (oi := ⟨some 52, _, _, _, _, _⟩) (v := undef) rfl (by kernel_rfl) (by kernel_rfl) (by kernel_rfl) (fun _ _ _ h => h) (Or.inr ⟨by rfl, rfl⟩) hH1 ?_
              try simp only [Act.put, List.setIfInBounds_toArray, List.set_cons_zero, List.set_cons_succ]
              refine wpAnyH_take (i := 13) (oi := ⟨some 53, _, _, _, _, _⟩) (v := undef) rfl (by kernel_rfl) (by kernel_rfl) (by kernel_rfl) (fun _ _ _ h => h) (Or.inr ⟨by rfl, rfl⟩) hH1 ?_
              try simp only [Act.put, List.setIfInBounds_toArray, List.set_cons_zero, List.set_cons_succ]
              refine wpAnyH_take (i := 14) (oi := ⟨some 54, _, _, _, _, _⟩) (v := undef) rfl (by kernel_rfl) (by kernel_rfl) (by kernel_rfl) (fun _ _ _ h => h) (Or.inr ⟨by rfl, rfl⟩) hH1 ?_
              try simp only [Act.put, List.setIfInBounds_toArray, List.set_cons_zero, List.set_cons_succ]
              refine wpAnyH_take (i := 15) (oi := ⟨some 55, _, _, _, _, _⟩) (v := undef) rfl (by kernel_rfl) (by kernel_rfl) (by kernel_rfl) (fun _ _ _ h => h) (Or.inr ⟨by rfl, rfl⟩) hH1 ?_
              try simp only [Act.put, List.setIfInBounds_toArray, List.set_cons_zero, List.set_cons_succ]
              refine wpAnyH_take (i := 16) (oi := ⟨some 56, _, _, _, _, _⟩) (v := undef) rfl (by kernel_rfl) (by kernel_rfl) (by kernel_rfl) (fun _ _ _ h => h) (Or.inr ⟨by rfl, rfl⟩) hH1 ?_
              try simp only [Act.put, List.setIfInBounds_toArray, List.set_cons_zero, List.set_cons_succ]
              refine wpAnyH_take (i := 17) (oi := ⟨some 57, _, _, _, _, _⟩) (v := undef) rfl (by kernel_rfl) (by kernel_rfl) (by kernel_rfl) (fun _ _ _ h => h) (Or.inr ⟨by rfl, rfl⟩) hH1 ?_
              try simp only [Act.put, List.setIfInBounds_toArray, List.set_cons_zero, List.set_cons_succ]
              refine wpAnyH_take (i := 18) (oi := ⟨some 58, _, _, _, _, _⟩) (v := undef) rfl (by kernel_rfl) (by kernel_rfl) (by kernel_rfl) (fun _ _ _ h => h) (Or.inr ⟨by rfl, rfl⟩) hH1 ?_
              try simp only [Act.put, List.setIfInBounds_toArray, List.set_cons_zero, List.set_cons_succ]
              refine wpAnyH_take (i := 19) (oi := ⟨some 59, _, _, _, _, _⟩) (v := undef) rfl (by kernel_rfl) (by kernel_rfl) (by kernel_rfl) (fun _ _ _ h => h) (Or.inr ⟨by rfl, rfl⟩) hH1 ?_
              try simp only [Act.put, List.setIfInBounds_toArray, List.set_cons_zero, List.set_cons_succ]
              refine wpAnyH_take (i := 20) (oi := ⟨some 60, _, _, _, _, _⟩) (v := ?_) rfl (by kernel_rfl) (by kernel_rfl) (by kernel_rfl) (fun _ _ _ h => h) (Or.inl ⟨by rfl, ?_⟩) hH1 ?_
              rotate_left
              · intro w hSw
                try dsimp only at hSw
                go_simp
                try with_reducible rfl
              try simp only [Act.put, List.setIfInBounds_toArray, List.set_cons_zero, List.set_cons_succ]
              refine wpAnyH_done (by kernel_rfl) ?_ _
              go_wp2_with fail
              have hj' := HJ.out
              go_roundg (g1 - 1)
              case measure => omega
              case rel => exact ⟨j + 1, by omega, by simp, M6.out, HY.out⟩
            · have HIn : Hid (∀ W, Calls Tryd.prog 69 #[.int .i64 (vof f j)] W (RetB W true)) := Lib.hid fun W => (rin_any (vof f j) W).mono fun e W1 h => ⟨by rw [h.1, hin], by rw [← h.2]; exact Below.refl _ _⟩
              have hbj := inB_bd hin
              have HY : Hid (vof f i - vof f j ≤ C i j → ∀ b, b < j + 1 → inB (vof f b) = true → vof f i - vof f b ≤ C i b) := Lib.hid fun hle b hb hi' => by
                by_cases e : b = j
                · subst e; exact hle
                · exact HAl2.out b (by omega) hi'
              obtain ⟨xj, hxj⟩ : ∃ x, vof f j = x := ⟨_, rfl⟩
              obtain ⟨y, hy⟩ : ∃ y, C i j = y := ⟨_, rfl⟩
              rw [HXi.out, hxj] at HS'
              have HY3 := Lib.hid (fun (h : xi - xj ≤ y) => HY.out (by rw [HXi.out, hxj, hy]; exact h))
              rw [hxj] at HIn hbj HN2
              rw [HXi.out] at HN2 hbi
              rw [hy] at HN2 HG hcb
              have v1 : IntKind.i64.wrap (xi - xj) = xi - xj := IntWalk.i64_in _ (by omega)
              have HS := HS'
              have HGet := HG
              clear HS' HG hin hxj hy hbi hbj hcb hpi hpj c0 c1 c2
              by_cases hlt : y < xi - xj
              · have hd : decide (y < xi - xj) = true := decide_eq_true hlt
                obtain rfl : bl = false := HN2.out (by omega)
                clear hlt
                refine wp_region_held_drew (S := fun w' => w'.cell? ⟨w.heap.size, 0, none⟩ = some (.int .i64 ((m : Int) - 1)) ∧ w'.cell? ⟨w.heap.size, 1, none⟩ = some (.slice (some ⟨g, 0, none⟩) (m * m) ca) ∧ w'.cell? ⟨gq, i, none⟩ = some (.int .i64 xi) ∧ w'.cell? ⟨gq, j, none⟩ = some (.int .i64 xj)) (by kernel_rfl) (HS.out _ MJ.out) (fun hH0 => ?_)
                refine wpAnyH_take (i := 0) (oi := ⟨some 40, _, _, _, _, _⟩) (v := ?_) rfl (by kernel_rfl) (by kernel_rfl) (by kernel_rfl) (fun _ _ _ h => h) (Or.inl ⟨by rfl, ?_⟩) hH0 ?_
                rotate_left
                · intro w hSw
                  try dsimp only at hSw
                  go_simp
                  try with_reducible rfl
                try simp only [Act.put, List.setIfInBounds_toArray, List.set_cons_zero, List.set_cons_succ]
                refine wpAnyH_take (i := 1) (oi := ⟨some 41, _, _, _, _, _⟩) (v := ?_) rfl (by kernel_rfl) (by kernel_rfl) (by kernel_rfl) (fun _ _ _ h => h) (Or.inl ⟨by rfl, ?_⟩) hH0 ?_
                rotate_left
                · intro w hSw
                  try dsimp only at hSw
                  go_simp
                  try with_reducible rfl
                try simp only [Act.put, List.setIfInBounds_toArray, List.set_cons_zero, List.set_cons_succ]
                refine wpAnyH_take (i := 2) (oi := ⟨some 42, _, _, _, _, _⟩) (v := ?_) rfl (by kernel_rfl) (by kernel_rfl) (by kernel_rfl) (fun _ _ _ h => h) (Or.inl ⟨by rfl, ?_⟩) hH0 ?_
                rotate_left
                · intro w hSw
                  try dsimp only at hSw
                  go_simp
                  try with_reducible rfl
                try simp only [Act.put, List.setIfInBounds_toArray, List.set_cons_zero, List.set_cons_succ]
                refine wpAnyH_take (i := 3) (oi := ⟨some 43, _, _, _, _, _⟩) (v := ?_) rfl (by kernel_rfl) (by kernel_rfl) (by kernel_rfl) (fun _ _ _ h => h) (Or.inl ⟨by rfl, ?_⟩) hH0 ?_
                rotate_left
                · intro w hSw
                  try dsimp only at hSw
                  go_simp
                  try with_reducible rfl
                try simp only [Act.put, List.setIfInBounds_toArray, List.set_cons_zero, List.set_cons_succ]
                refine wpAnyH_ready (rs := [4]) (by kernel_rfl) (by simp) ?_
                refine AllReadyH.cons (o := ⟨some 44, _, _, _, _, _⟩) rfl (fun K hK => ?_) AllReadyH.nil
                go_simp
                refine (HIn.out _).mono ?_
                rintro e w6 ⟨rfl, hb6⟩
                have M6 := Lib.hid (MJ.out.below hb6); clear hb6
                go_wp2_with fail
                refine hK.out _ _ (HS.out _ M6.out) (fun hH1 => ?_)
                clear hK K hH0
                try simp only [Act.put, List.setIfInBounds_toArray, List.set_cons_zero, List.set_cons_succ]
                refine wpAnyH_take (i := 5) (oi := ⟨some 45, _, _, _, _, _⟩) (v := ?_) rfl (by kernel_rfl) (by kernel_rfl) (by kernel_rfl) (fun _ _ _ h => h) (Or.inl ⟨by rfl, ?_⟩) hH1 ?_
                rotate_left
                · intro w hSw
                  try dsimp only at hSw
                  go_simp
                  try with_reducible rfl
                try simp only [Act.put, List.setIfInBounds_toArray, List.set_cons_zero, List.set_cons_succ]
                refine wpAnyH_take (i := 6) (oi := ⟨some 46, _, _, _, _, _⟩) (v := ?_) rfl (by kernel_rfl) (by kernel_rfl) (by kernel_rfl) (fun _ _ _ h => h) (Or.inl ⟨by rfl, ?_⟩) hH1 ?_
                rotate_left
                · intro w hSw
                  try dsimp only at hSw
                  go_simp
                  try with_reducible rfl
                try simp only [Act.put, List.setIfInBounds_toArray, List.set_cons_zero, List.set_cons_succ]
                refine wpAnyH_take (i := 7) (oi := ⟨some 47, _, _, _, _, _⟩) (v := ?_) rfl (by kernel_rfl) (by kernel_rfl) (by kernel_rfl) (fun _ _ _ h => h) (Or.inl ⟨by rfl, ?_⟩) hH1 ?_
                rotate_left
                · intro w hSw
                  try dsimp only at hSw
                  go_simp
                  try with_reducible rfl
                try simp only [Act.put, List.setIfInBounds_toArray, List.set_cons_zero, List.set_cons_succ]
                refine wpAnyH_take (i := 8) (oi := ⟨some 48, _, _, _, _, _⟩) (v := ?_) rfl (by kernel_rfl) (by kernel_rfl) (by kernel_rfl) (fun _ _ _ h => h) (Or.inl ⟨by rfl, ?_⟩) hH1 ?_
                rotate_left
                · intro w hSw
                  try dsimp only at hSw
                  go_simp
                  try with_reducible rfl
                try simp only [Act.put, List.setIfInBounds_toArray, List.set_cons_zero, List.set_cons_succ]
                refine wpAnyH_take (i := 9) (oi := ⟨some 49, _, _, _, _, _⟩) (v := ?_) rfl (by kernel_rfl) (by kernel_rfl) (by kernel_rfl) (fun _ _ _ h => h) (Or.inl ⟨by rfl, ?_⟩) hH1 ?_
                rotate_left
                · intro w hSw
                  try dsimp only at hSw
                  go_simp
                  try with_reducible rfl
                try simp only [Act.put, List.setIfInBounds_toArray, List.set_cons_zero, List.set_cons_succ]
                refine wpAnyH_take (i := 10) (oi := ⟨some 50, _, _, _, _, _⟩) (v := ?_) rfl (by kernel_rfl) (by kernel_rfl) (by kernel_rfl) (fun _ _ _ h => h) (Or.inl ⟨by rfl, ?_⟩) hH1 ?_
                rotate_left
                · intro w hSw
                  try dsimp only at hSw
                  go_simp
                  try with_reducible rfl
                try simp only [Act.put, List.setIfInBounds_toArray, List.set_cons_zero, List.set_cons_succ]
                refine wpAnyH_take (i := 11) (oi := ⟨some 51, _, _, _, _, _⟩) (v := ?_) rfl (by kernel_rfl) (by kernel_rfl) (by kernel_rfl) (fun _ _ _ h => h) (Or.inl ⟨by rfl, ?_⟩) hH1 ?_
                rotate_left
                · intro w hSw
                  try dsimp only at hSw
                  go_simp
                  try with_reducible rfl
                try simp only [Act.put, List.setIfInBounds_toArray, List.set_cons_zero, List.set_cons_succ]
                refine wpAnyH_take (i := 12) (oi := ⟨some 52, _, _, _, _, _⟩) (v := ?_) rfl (by kernel_rfl) (by kernel_rfl) (by kernel_rfl) (fun _ _ _ h => h) (Or.inl ⟨by rfl, ?_⟩) hH1 ?_
                rotate_left
                · intro w hSw
                  try dsimp only at hSw
                  go_simp
                  try with_reducible rfl
                try simp only [Act.put, List.setIfInBounds_toArray, List.set_cons_zero, List.set_cons_succ]
                refine wpAnyH_take (i := 13) (oi := ⟨some 53, _, _, _, _, _⟩) (v := ?_) rfl (by kernel_rfl) (by kernel_rfl) (by kernel_rfl) (fun _ _ _ h => h) (Or.inl ⟨by rfl, ?_⟩) hH1 ?_
                rotate_left
                · intro w hSw
                  try dsimp only at hSw
                  go_simp
                  try with_reducible rfl
                try simp only [Act.put, List.setIfInBounds_toArray, List.set_cons_zero, List.set_cons_succ]
                refine wpAnyH_take (i := 14) (oi := ⟨some 54, _, _, _, _, _⟩) (v := ?_) rfl (by kernel_rfl) (by kernel_rfl) (by kernel_rfl) (fun _ _ _ h => h) (Or.inl ⟨by rfl, ?_⟩) hH1 ?_
                rotate_left
                · intro w hSw
                  try dsimp only at hSw
                  go_simp
                  try with_reducible rfl
                try simp only [Act.put, List.setIfInBounds_toArray, List.set_cons_zero, List.set_cons_succ]
                refine wpAnyH_take (i := 15) (oi := ⟨some 55, _, _, _, _, _⟩) (v := ?_) rfl (by kernel_rfl) (by kernel_rfl) (by kernel_rfl) (fun _ _ _ h => h) (Or.inl ⟨by rfl, ?_⟩) hH1 ?_
                rotate_left
                · intro w hSw
                  try dsimp only at hSw
                  go_simp
                  try with_reducible rfl
                try simp only [Act.put, List.setIfInBounds_toArray, List.set_cons_zero, List.set_cons_succ]
                refine wpAnyH_take (i := 16) (oi := ⟨some 56, _, _, _, _, _⟩) (v := ?_) rfl (by kernel_rfl) (by kernel_rfl) (by kernel_rfl) (fun _ _ _ h => h) (Or.inl ⟨by rfl, ?_⟩) hH1 ?_
                rotate_left
                · intro w hSw
                  try dsimp only at hSw
                  go_simp
                  try with_reducible rfl
                try simp only [Act.put, List.setIfInBounds_toArray, List.set_cons_zero, List.set_cons_succ]
                refine wpAnyH_take (i := 17) (oi := ⟨some 57, _, _, _, _, _⟩) (v := ?_) rfl (by kernel_rfl) (by kernel_rfl) (by kernel_rfl) (fun _ _ _ h => h) (Or.inl ⟨by rfl, ?_⟩) hH1 ?_
                rotate_left
                · intro w hSw
                  try dsimp only at hSw
                  go_simp
                  try with_reducible rfl
                try simp only [Act.put, List.setIfInBounds_toArray, List.set_cons_zero, List.set_cons_succ]
                refine wpAnyH_ready (rs := [18]) (by kernel_rfl) (by simp) ?_
                refine AllReadyH.cons (o := ⟨some 58, _, _, _, _, _⟩) rfl (fun K hK => ?_) AllReadyH.nil
                go_simp
                refine (HGet.out _ M6.out).mono ?_
                rintro e w7 ⟨rfl, hb7⟩
                have M7 := Lib.hid (M6.out.below hb7); clear hb7
                go_wp2_with fail
                refine hK.out _ _ (HS.out _ M7.out) (fun hH2 => ?_)
                clear hK K hH1
                try simp only [Act.put, List.setIfInBounds_toArray, List.set_cons_zero, List.set_cons_succ]
                refine wpAnyH_take (i := 19) (oi := ⟨some 59, _, _, _, _, _⟩) (v := ?_) rfl (by kernel_rfl) (by kernel_rfl) (by kernel_rfl) (fun _ _ _ h => h) (Or.inl ⟨by rfl, ?_⟩) hH2 ?_
                rotate_left
                · intro w hSw
                  try dsimp only at hSw
                  go_simp
                  try with_reducible rfl
                try simp only [Act.put, List.setIfInBounds_toArray, List.set_cons_zero, List.set_cons_succ]
                refine wpAnyH_take (i := 20) (oi := ⟨some 60, _, _, _, _, _⟩) (v := ?_) rfl (by kernel_rfl) (by kernel_rfl) (by kernel_rfl) (fun _ _ _ h => h) (Or.inl ⟨by rfl, ?_⟩) hH2 ?_
                rotate_left
                · intro w hSw
                  try dsimp only at hSw
                  go_simp
                  try with_reducible rfl
                try simp only [Act.put, List.setIfInBounds_toArray, List.set_cons_zero, List.set_cons_succ]
                refine wpAnyH_done (by kernel_rfl) ?_ _
                go_wp2_with fail
                go_ret
                exact ⟨rfl, M7.out.low⟩
              · have hd : decide (y < xi - xj) = false := decide_eq_false hlt
                have HY2 := Lib.hid (HY3.out (by omega))
                clear hlt
                refine wp_region_held_drew (S := fun w' => w'.cell? ⟨w.heap.size, 0, none⟩ = some (.int .i64 ((m : Int) - 1)) ∧ w'.cell? ⟨w.heap.size, 1, none⟩ = some (.slice (some ⟨g, 0, none⟩) (m * m) ca) ∧ w'.cell? ⟨gq, i, none⟩ = some (.int .i64 xi) ∧ w'.cell? ⟨gq, j, none⟩ = some (.int .i64 xj)) (by kernel_rfl) (HS.out _ MJ.out) (fun hH0 => ?_)
                refine wpAnyH_take (i := 0) (oi := ⟨some 40, _, _, _, _, _⟩) (v := ?_) rfl (by kernel_rfl) (by kernel_rfl) (by kernel_rfl) (fun _ _ _ h => h) (Or.inl ⟨by rfl, ?_⟩) hH0 ?_
                rotate_left
                · intro w hSw
                  try dsimp only at hSw
                  go_simp
                  try with_reducible rfl
                try simp only [Act.put, List.setIfInBounds_toArray, List.set_cons_zero, List.set_cons_succ]
                refine wpAnyH_take (i := 1) (oi := ⟨some 41, _, _, _, _, _⟩) (v := ?_) rfl (by kernel_rfl) (by kernel_rfl) (by kernel_rfl) (fun _ _ _ h => h) (Or.inl ⟨by rfl, ?_⟩) hH0 ?_
                rotate_left
                · intro w hSw
                  try dsimp only at hSw
                  go_simp
                  try with_reducible rfl
                try simp only [Act.put, List.setIfInBounds_toArray, List.set_cons_zero, List.set_cons_succ]
                refine wpAnyH_take (i := 2) (oi := ⟨some 42, _, _, _, _, _⟩) (v := ?_) rfl (by kernel_rfl) (by kernel_rfl) (by kernel_rfl) (fun _ _ _ h => h) (Or.inl ⟨by rfl, ?_⟩) hH0 ?_
                rotate_left
                · intro w hSw
                  try dsimp only at hSw
                  go_simp
                  try with_reducible rfl
                try simp only [Act.put, List.setIfInBounds_toArray, List.set_cons_zero, List.set_cons_succ]
                refine wpAnyH_take (i := 3) (oi := ⟨some 43, _, _, _, _, _⟩) (v := ?_) rfl (by kernel_rfl) (by kernel_rfl) (by kernel_rfl) (fun _ _ _ h => h) (Or.inl ⟨by rfl, ?_⟩) hH0 ?_
                rotate_left
                · intro w hSw
                  try dsimp only at hSw
                  go_simp
                  try with_reducible rfl
                try simp only [Act.put, List.setIfInBounds_toArray, List.set_cons_zero, List.set_cons_succ]
                refine wpAnyH_ready (rs := [4]) (by kernel_rfl) (by simp) ?_
                refine AllReadyH.cons (o := ⟨some 44, _, _, _, _, _⟩) rfl (fun K hK => ?_) AllReadyH.nil
                go_simp
                refine (HIn.out _).mono ?_
                rintro e w6 ⟨rfl, hb6⟩
                have M6 := Lib.hid (MJ.out.below hb6); clear hb6
                go_wp2_with fail
                refine hK.out _ _ (HS.out _ M6.out) (fun hH1 => ?_)
                clear hK K hH0
                try simp only [Act.put, List.setIfInBounds_toArray, List.set_cons_zero, List.set_cons_succ]
                refine wpAnyH_take (i := 5) (oi := ⟨some 45, _, _, _, _, _⟩) (v := ?_) rfl (by kernel_rfl) (by kernel_rfl) (by kernel_rfl) (fun _ _ _ h => h) (Or.inl ⟨by rfl, ?_⟩) hH1 ?_
                rotate_left
                · intro w hSw
                  try dsimp only at hSw
                  go_simp
                  try with_reducible rfl
                try simp only [Act.put, List.setIfInBounds_toArray, List.set_cons_zero, List.set_cons_succ]
                refine wpAnyH_take (i := 6) (oi := ⟨some 46, _, _, _, _, _⟩) (v := ?_) rfl (by kernel_rfl) (by kernel_rfl) (by kernel_rfl) (fun _ _ _ h => h) (Or.inl ⟨by rfl, ?_⟩) hH1 ?_
                rotate_left
                · intro w hSw
                  try dsimp only at hSw
                  go_simp
                  try with_reducible rfl
                try simp only [Act.put, List.setIfInBounds_toArray, List.set_cons_zero, List.set_cons_succ]
                refine wpAnyH_take (i := 7) (oi := ⟨some 47, _, _, _, _, _⟩) (v := ?_) rfl (by kernel_rfl) (by kernel_rfl) (by kernel_rfl) (fun _ _ _ h => h) (Or.inl ⟨by rfl, ?_⟩) hH1 ?_
                rotate_left
                · intro w hSw
                  try dsimp only at hSw
                  go_simp
                  try with_reducible rfl
                try simp only [Act.put, List.setIfInBounds_toArray, List.set_cons_zero, List.set_cons_succ]
                refine wpAnyH_take (i := 8) (oi := ⟨some 48, _, _, _, _, _⟩) (v := ?_) rfl (by kernel_rfl) (by kernel_rfl) (by kernel_rfl) (fun _ _ _ h => h) (Or.inl ⟨by rfl, ?_⟩) hH1 ?_
                rotate_left
                · intro w hSw
                  try dsimp only at hSw
                  go_simp
                  try with_reducible rfl
                try simp only [Act.put, List.setIfInBounds_toArray, List.set_cons_zero, List.set_cons_succ]
                refine wpAnyH_take (i := 9) (oi := ⟨some 49, _, _, _, _, _⟩) (v := ?_) rfl (by kernel_rfl) (by kernel_rfl) (by kernel_rfl) (fun _ _ _ h => h) (Or.inl ⟨by rfl, ?_⟩) hH1 ?_
                rotate_left
                · intro w hSw
                  try dsimp only at hSw
                  go_simp
                  try with_reducible rfl
                try simp only [Act.put, List.setIfInBounds_toArray, List.set_cons_zero, List.set_cons_succ]
                refine wpAnyH_take (i := 10) (oi := ⟨some 50, _, _, _, _, _⟩) (v := ?_) rfl (by kernel_rfl) (by kernel_rfl) (by kernel_rfl) (fun _ _ _ h => h) (Or.inl ⟨by rfl, ?_⟩) hH1 ?_
                rotate_left
                · intro w hSw
                  try dsimp only at hSw
                  go_simp
                  try with_reducible rfl
                try simp only [Act.put, List.setIfInBounds_toArray, List.set_cons_zero, List.set_cons_succ]
                refine wpAnyH_take (i := 11) (oi := ⟨some 51, _, _, _, _, _⟩) (v := ?_) rfl (by kernel_rfl) (by kernel_rfl) (by kernel_rfl) (fun _ _ _ h => h) (Or.inl ⟨by rfl, ?_⟩) hH1 ?_
                rotate_left
                · intro w hSw
                  try dsimp only at hSw
                  go_simp
                  try with_reducible rfl
                try simp only [Act.put, List.setIfInBounds_toArray, List.set_cons_zero, List.set_cons_succ]
                refine wpAnyH_take (i := 12) (oi := ⟨some 52, _, _, _, _, _⟩) (v := ?_) rfl (by kernel_rfl) (by kernel_rfl) (by kernel_rfl) (fun _ _ _ h => h) (Or.inl ⟨by rfl, ?_⟩) hH1 ?_
                rotate_left
                · intro w hSw
                  try dsimp only at hSw
                  go_simp
                  try with_reducible rfl
                try simp only [Act.put, List.setIfInBounds_toArray, List.set_cons_zero, List.set_cons_succ]
                refine wpAnyH_take (i := 13) (oi := ⟨some 53, _, _, _, _, _⟩) (v := ?_) rfl (by kernel_rfl) (by kernel_rfl) (by kernel_rfl) (fun _ _ _ h => h) (Or.inl ⟨by rfl, ?_⟩) hH1 ?_
                rotate_left
                · intro w hSw
                  try dsimp only at hSw
                  go_simp
                  try with_reducible rfl
                try simp only [Act.put, List.setIfInBounds_toArray, List.set_cons_zero, List.set_cons_succ]
                refine wpAnyH_take (i := 14) (oi := ⟨some 54, _, _, _, _, _⟩) (v := ?_) rfl (by kernel_rfl) (by kernel_rfl) (by kernel_rfl) (fun _ _ _ h => h) (Or.inl ⟨by rfl, ?_⟩) hH1 ?_
                rotate_left
                · intro w hSw
                  try dsimp only at hSw
                  go_simp
                  try with_reducible rfl
                try simp only [Act.put, List.setIfInBounds_toArray, List.set_cons_zero, List.set_cons_succ]
                refine wpAnyH_take (i := 15) (oi := ⟨some 55, _, _, _, _, _⟩) (v := ?_) rfl (by kernel_rfl) (by kernel_rfl) (by kernel_rfl) (fun _ _ _ h => h) (Or.inl ⟨by rfl, ?_⟩) hH1 ?_
                rotate_left
                · intro w hSw
                  try dsimp only at hSw
                  go_simp
                  try with_reducible rfl
                try simp only [Act.put, List.setIfInBounds_toArray, List.set_cons_zero, List.set_cons_succ]
                refine wpAnyH_take (i := 16) (oi := ⟨some 56, _, _, _, _, _⟩) (v := ?_) rfl (by kernel_rfl) (by kernel_rfl) (by kernel_rfl) (fun _ _ _ h => h) (Or.inl ⟨by rfl, ?_⟩) hH1 ?_
                rotate_left
                · intro w hSw
                  try dsimp only at hSw
                  go_simp
                  try with_reducible rfl
                try simp only [Act.put, List.setIfInBounds_toArray, List.set_cons_zero, List.set_cons_succ]
                refine wpAnyH_take (i := 17) (oi := ⟨some 57, _, _, _, _, _⟩) (v := ?_) rfl (by kernel_rfl) (by kernel_rfl) (by kernel_rfl) (fun _ _ _ h => h) (Or.inl ⟨by rfl, ?_⟩) hH1 ?_
                rotate_left
                · intro w hSw
                  try dsimp only at hSw
                  go_simp
                  try with_reducible rfl
                try simp only [Act.put, List.setIfInBounds_toArray, List.set_cons_zero, List.set_cons_succ]
                refine wpAnyH_ready (rs := [18]) (by kernel_rfl) (by simp) ?_
                refine AllReadyH.cons (o := ⟨some 58, _, _, _, _, _⟩) rfl (fun K hK => ?_) AllReadyH.nil
                go_simp
                refine (HGet.out _ M6.out).mono ?_
                rintro e w7 ⟨rfl, hb7⟩
                have M7 := Lib.hid (M6.out.below hb7); clear hb7
                go_wp2_with fail
                refine hK.out _ _ (HS.out _ M7.out) (fun hH2 => ?_)
                clear hK K hH1
                try simp only [Act.put, List.setIfInBounds_toArray, List.set_cons_zero, List.set_cons_succ]
                refine wpAnyH_take (i := 19) (oi := ⟨some 59, _, _, _, _, _⟩) (v := ?_) rfl (by kernel_rfl) (by kernel_rfl) (by kernel_rfl) (fun _ _ _ h => h) (Or.inl ⟨by rfl, ?_⟩) hH2 ?_
                rotate_left
                · intro w hSw
                  try dsimp only at hSw
                  go_simp
                  try with_reducible rfl
                try simp only [Act.put, List.setIfInBounds_toArray, List.set_cons_zero, List.set_cons_succ]
                refine wpAnyH_take (i := 20) (oi := ⟨some 60, _, _, _, _, _⟩) (v := ?_) rfl (by kernel_rfl) (by kernel_rfl) (by kernel_rfl) (fun _ _ _ h => h) (Or.inl ⟨by rfl, ?_⟩) hH2 ?_
                rotate_left
                · intro w hSw
                  try dsimp only at hSw
                  go_simp
                  try with_reducible rfl
                try simp only [Act.put, List.setIfInBounds_toArray, List.set_cons_zero, List.set_cons_succ]
                refine wpAnyH_done (by kernel_rfl) ?_ _
                go_wp2_with fail
                have hj' := HJ.out
                go_roundg (g1 - 1)
                case measure => omega
                case rel => exact ⟨j + 1, by omega, by simp, M7.out, HY2.out⟩
          · have hje : j = m := by have := HJ.out; omega
            have d5 : decide ((j : Int) ≤ (m : Int) - 1) = false := decide_eq_false (by omega)
            have wi : IntKind.i64.wrap ((i : Int) + 1) = (i : Int) + 1 := IntWalk.i64_in _ (by have := HN.out; omega)
            have HY : Hid (∀ a, a < i + 1 → inB (vof f a) = true ∧ ∀ b, b < m → inB (vof f b) = true → vof f a - vof f b ≤ C a b) := Lib.hid fun a ha => by
              by_cases e : a = i
              · subst e; exact ⟨HIi.out, fun b hb => HAl2.out b (by omega)⟩
              · exact HAll.out a (by omega)
            clear hje
            go_wp2_with fail
            have hi' := HI.out
            go_roundg (g0 - 1)
            case measure => omega
            case rel => exact ⟨i + 1, by omega, by simp, M.out, HY.out⟩
    · have hie : i = m := by have := HI.out; omega
      have d4 : decide ((i : Int) ≤ (m : Int) - 1) = false := decide_eq_false (by omega)
      obtain rfl : bl = true := HYes.out (fun a ha => (HAll.out a (by omega)).1) (fun a b ha hb => (HAll.out a (by omega)).2 b hb (HAll.out b (by omega)).1)
      clear hie
      go_wp2_with fail
      go_ret
      exact ⟨rfl, M.out.low⟩
theorem rhas_any (h0 : 0 < m) (h7 : m ≤ 7) (ha : ZRes w ba m R (zoneV ((m : Int) - 1) A (rlen m R) ca)) (hr : RowAt w (.slice P n cp) n (nums n f)) :
    Calls Tryd.prog 32 #[zoneV ((m : Int) - 1) A (rlen m R) ca, .slice P n cp] w (RetB w (hasO m n f R)) := by
  cases R with
  | none => exact rhas_none ha
  | some C =>
    by_cases hn : n + 1 = m
    · exact rhas_pts h0 h7 hn ha hr
    · have e : hasO m n f (some C) = false := by
        show (decide (n + 1 = m) && _) = false
        rw [decide_eq_false hn]; rfl
      rw [e]
      exact rhas_len h0 hn ha
end
end Go.Proofs.YtcbkffpmclainaaDoor
