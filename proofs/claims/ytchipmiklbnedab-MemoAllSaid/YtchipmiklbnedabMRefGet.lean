/- The contract of the document's Get: what was put last in the place. -/
import Derived.Test.YtchipmiklbnedabMRef
namespace Go.Proofs.Ytchipmiklbnedab
open Go.RowKit
attribute [local go_sem ↓] Go.wp_at_zero Go.wp_at_succ

/-- A row of puts. -/
def Puts (w : World) (A : Option Addr) (m : Nat) (f : Nat → Ky × Int) : Prop :=
  0 < m → ∃ b off, A = some ⟨b, off, none⟩ ∧ b < w.heap.size ∧ ∀ j, j < m → w.cell? ⟨b, off + j * 4, none⟩ = some (.int .i64 (f j).1.1) ∧ w.cell? ⟨b, off + j * 4 + 1, none⟩ = some (.int .i64 (f j).1.2.1) ∧ w.cell? ⟨b, off + j * 4 + 2, none⟩ = some (.int .i64 (f j).1.2.2) ∧ w.cell? ⟨b, off + j * 4 + 3, none⟩ = some (.int .i64 (f j).2)
theorem Puts.below {w w' : World} {A : Option Addr} {m : Nat} {f : Nat → Ky × Int} (h : Puts w A m f) (hb : Below w.heap.size w w') : Puts w' A m f := fun hm => by
  obtain ⟨b, off, rfl, hlt, hc⟩ := h hm
  refine ⟨b, off, rfl, Nat.lt_of_lt_of_le hlt hb.size, fun j hj => ?_⟩
  obtain ⟨h0, h1, h2, h3⟩ := hc j hj
  exact ⟨(hb.cell (p := ⟨b, _, none⟩) hlt).trans h0, (hb.cell (p := ⟨b, _, none⟩) hlt).trans h1, (hb.cell (p := ⟨b, _, none⟩) hlt).trans h2, (hb.cell (p := ⟨b, _, none⟩) hlt).trans h3⟩
theorem Puts.le {w : World} {A : Option Addr} {m k : Nat} {f : Nat → Ky × Int} (h : Puts w A m f) (hk : k ≤ m) : Puts w A k f := fun h0 => by
  obtain ⟨b, off, e, hlt, hc⟩ := h (by omega)
  exact ⟨b, off, e, hlt, fun j hj => hc j (by omega)⟩
def lst (f : Nat → Ky × Int) (m : Nat) : List (Ky × Int) := (List.range m).map f
theorem lst_at (f : Nat → Ky × Int) {m j : Nat} (h : j < m) : (lst f m)[j]? = some (f j) := by
  unfold lst; rw [List.getElem?_map, List.getElem?_range h]; rfl
theorem lst_of (f : Nat → Ky × Int) {m j : Nat} {y : Ky × Int} (h : (lst f m)[j]? = some y) : j < m ∧ y = f j := by
  have hj : j < m := by have := (List.getElem?_eq_some_iff.1 h).1; simpa [lst] using this
  rw [lst_at f hj] at h
  exact ⟨hj, by injection h with h; exact h.symm⟩
theorem lst_succ (f : Nat → Ky × Int) (m : Nat) : lst f (m + 1) = lst f m ++ [f m] := by unfold lst; rw [List.range_succ, List.map_append]; rfl
theorem lst_puts (n : Nat) (f : Nat → Ky × Int) (m : Nat) : putsP n noneP (lst f (m + 1)) = putP n (putsP n noneP (lst f m)) (f m) := by rw [lst_succ, putsP_snoc]

theorem keep_six {B : World} {w w1 : World} {p b o : Nat} {x y z u v t : Option Value} (hb : Below w.heap.size w w1) (h : Below B.heap.size B w ∧ p < w.heap.size ∧ b < w.heap.size ∧ w.cell? ⟨p, 0, none⟩ = x ∧ w.cell? ⟨p, 1, none⟩ = y ∧ w.cell? ⟨p, 2, none⟩ = z ∧ w.cell? ⟨b, o, none⟩ = u ∧ w.cell? ⟨b, o + 1, none⟩ = v ∧ w.cell? ⟨b, o + 2, none⟩ = t) :
    Below B.heap.size B w1 ∧ p < w1.heap.size ∧ b < w1.heap.size ∧ w1.cell? ⟨p, 0, none⟩ = x ∧ w1.cell? ⟨p, 1, none⟩ = y ∧ w1.cell? ⟨p, 2, none⟩ = z ∧ w1.cell? ⟨b, o, none⟩ = u ∧ w1.cell? ⟨b, o + 1, none⟩ = v ∧ w1.cell? ⟨b, o + 2, none⟩ = t := by
  obtain ⟨h0, h1, h2, k0, k1, k2, k3, k4, k5⟩ := h
  have hs := hb.size
  exact ⟨h0.trans (hb.mono h0.size), by omega, by omega, (hb.cell (p := ⟨p, _, none⟩) h1).trans k0, (hb.cell (p := ⟨p, _, none⟩) h1).trans k1, (hb.cell (p := ⟨p, _, none⟩) h1).trans k2, (hb.cell (p := ⟨b, _, none⟩) h2).trans k3, (hb.cell (p := ⟨b, _, none⟩) h2).trans k4, (hb.cell (p := ⟨b, _, none⟩) h2).trans k5⟩
theorem equalK2 (a b c d e f : Int) (w : World) : (Op.equalIn 10000 28 (.agg #[.int .i64 a, .int .i64 b, .int .i64 c]) (.agg #[.int .i64 d, .int .i64 e, .int .i64 f])).run Try.prog w = .ok (sameK a b c d e f) w := by
  have hinfo : (Try.prog.info? 3).map (fun i => (i.zero, i.size, i.bytes)) = some (some (.int .i64 0), 1, 8) := by kernel_rfl
  obtain ⟨i0, hi, hz0, hz1, hz2⟩ := info_parts hinfo
  rw [run_equalIn_array w 9999 _ _ Try.underlying28 hi]
  by_cases h : a = d <;> by_cases h' : b = e <;> by_cases h'' : c = f <;> simp [sameK, List.range_succ, Op.eqItems, part, go_sem, h, h', h'', Try.underlying3, cellsInt]
theorem eqK2 (a b c d e f : Int) (w : World) : (binOp .eql 28 (.agg #[.int .i64 a, .int .i64 b, .int .i64 c]) (.agg #[.int .i64 d, .int .i64 e, .int .i64 f])).run Try.prog w = .ok (.bool (sameK a b c d e f)) w := by
  rw [run_eql_struct, equalK2]; rfl
theorem guardK2 : Try.prog.eqGuardType Try.prog.depth 28 = false := by kernel_rfl
theorem eqgK2 (op : BinOp) (x y : Operand) (xs ys : Array Value) (w : World) : (eqGuard op 28 x y (.agg xs) (.agg ys)).run Try.prog w = .ok () w := run_eqGuard_agg w op 28 x y xs ys guardK2
theorem drewN_below (w : World) : ∀ q, Below w.heap.size w (w.drewN q)
  | 0 => Below.refl _ _
  | q + 1 => (drewN_below w q).trans (Below.refl _ _).drew
/-- The key's box, and all that there was. -/
def Boxed (w : World) (a b d : Int) (W : World) : Prop := Blk W w.heap.size 28 #[.int .i64 a, .int .i64 b, .int .i64 d] ∧ Below w.heap.size w W
theorem Boxed.below {w W W1 : World} {a b d : Int} (x : Boxed w a b d W) (hb : Below W.heap.size W W1) : Boxed w a b d W1 := ⟨x.1.below hb x.1.lt, x.2.trans (hb.mono x.2.size)⟩
section
variable {W : World} {A : Option Addr} {m c n : Nat} {f : Nat → Ky × Int}
def FarOff (n m i : Nat) (f : Nat → Ky × Int) (s : Nat) : Prop := ∀ j, i ≤ j → j < m → slotP n (f j).1 ≠ s
attribute [local go_sem ↓] eqK2 eqgK2 in
set_option maxRecDepth 100000 in
set_option maxHeartbeats 3200000 in
theorem rget_any {a b d : Int} (h : Puts W A m f) (hm : m ≤ 4611686018427387904) (hn : 0 < n) (hn2 : n ≤ 65536) :
    Calls Try.prog 15 #[.int .i64 (n : Int), .slice A m c, .agg #[.int .i64 a, .int .i64 b, .int .i64 d]] W (RetGet n (putsP n noneP (lst f m)) (a, b, d) W) := by
  obtain ⟨s, hs⟩ : ∃ s, s = slotP n (a, b, d) := ⟨_, rfl⟩
  have HP := Lib.hid h
  have HS := Lib.hid hs
  have hb0 := (Below.refl W.heap.size W).alloc (Nat.le_refl _) (.cells #[.int .i64 a, .int .i64 b, .int .i64 d] 28)
  have HB0 : Hid (Boxed W a b d (W.alloc (.cells #[.int .i64 a, .int .i64 b, .int .i64 d] 28))) := Lib.hid ⟨Blk.new _ _ _, hb0⟩
  have HK := Lib.hid (fun W1 => rslot_any n a b d W1 hn hn2)
  clear h hs hb0
  go_enter Try.func15, Try.ntmps15
  go_wp2_with fail
  go_loopg [8] m (fun gk t8 wr => ∃ i : Int, t8 = .int .i64 i ∧ i + 1 = (gk : Int) ∧ gk ≤ m ∧ FarOff n m gk f s ∧ Boxed W a b d wr)
  case atStart => exact ⟨(m : Int) - 1, rfl, by omega, Nat.le_refl _, fun j h1 h2 => absurd h1 (by omega), HB0.out⟩
  case round =>
    obtain ⟨i, rfl, hi, hgm, hF, hB⟩ := hrel
    have HF := Lib.hid hF
    have HB := Lib.hid hB
    clear hF hB
    cases gk with
    | zero =>
      obtain rfl : i = -1 := by omega
      go_wp2_with fail
      go_ret2
      have hv : getP n (putsP n noneP (lst f m)) (a, b, d) = (0, false) := by
        have : putsP n noneP (lst f m) (slotP n (a, b, d)) = none := puts_none (fun j y hy => by
          obtain ⟨hj, rfl⟩ := lst_of f hy
          rw [← HS.out]
          exact HF.out j (Nat.zero_le _) hj) noneP
        unfold getP; rw [this]; rfl
      unfold RetGet
      rw [hv]
      exact ⟨rfl, HB.out.2⟩
    | succ j =>
      obtain rfl : i = (j : Int) := by omega
      have hjm : j < m := by omega
      obtain ⟨pb, off, hA, hlt, hc⟩ := HP.out.below HB.out.2 (by omega)
      obtain ⟨k0, k1, k2, k3⟩ := hc j hjm
      obtain ⟨x1, e1⟩ : ∃ x, x = (f j).1.1 := ⟨_, rfl⟩
      obtain ⟨x2, e2⟩ : ∃ x, x = (f j).1.2.1 := ⟨_, rfl⟩
      obtain ⟨x3, e3⟩ : ∃ x, x = (f j).1.2.2 := ⟨_, rfl⟩
      obtain ⟨x4, e4⟩ : ∃ x, x = (f j).2 := ⟨_, rfl⟩
      rw [← e1] at k0
      rw [← e2] at k1
      rw [← e3] at k2
      rw [← e4] at k3
      have HX : Hid (f j = ((x1, x2, x3), x4)) := Lib.hid (by rw [e1, e2, e3, e4])
      obtain ⟨s1, hs1⟩ : ∃ s1, s1 = slotP n (x1, x2, x3) := ⟨_, rfl⟩
      have C1 : Hid (∀ W1, Calls Try.prog 17 #[.int .i64 (n : Int), .agg #[.int .i64 x1, .int .i64 x2, .int .i64 x3]] W1 (RetB (.int .i64 (s1 : Nat)) W1)) := Lib.hid fun W1 => by rw [hs1]; exact rslot_any n x1 x2 x3 W1 hn hn2
      have C2 : Hid (∀ W1, Calls Try.prog 17 #[.int .i64 (n : Int), .agg #[.int .i64 a, .int .i64 b, .int .i64 d]] W1 (RetB (.int .i64 (s : Nat)) W1)) := Lib.hid fun W1 => by rw [HS.out]; exact rslot_any n a b d W1 hn hn2
      have K0 : Hid (Below W.heap.size W wr.drew ∧ W.heap.size < wr.drew.heap.size ∧ pb < wr.drew.heap.size ∧ wr.drew.cell? ⟨W.heap.size, 0, none⟩ = some (.int .i64 a) ∧ wr.drew.cell? ⟨W.heap.size, 1, none⟩ = some (.int .i64 b) ∧ wr.drew.cell? ⟨W.heap.size, 2, none⟩ = some (.int .i64 d) ∧ wr.drew.cell? ⟨pb, off + j * 4, none⟩ = some (.int .i64 x1) ∧ wr.drew.cell? ⟨pb, off + j * 4 + 1, none⟩ = some (.int .i64 x2) ∧ wr.drew.cell? ⟨pb, off + j * 4 + 2, none⟩ = some (.int .i64 x3)) := Lib.hid ⟨HB.out.2.drew, HB.out.1.lt, hlt, HB.out.1.cell 0, HB.out.1.cell 1, HB.out.1.cell 2, k0, k1, k2⟩
      have HK3 := Lib.hid (And.intro hlt k3)
      have HS1 := Lib.hid hs1
      subst hA
      clear hlt hc k0 k1 k2 k3 e1 e2 e3 e4 hs1
      by_cases he : s1 = s
      · subst he
        go_wp2_with fail
        go_region_held3 (fun w' => Below W.heap.size W w' ∧ W.heap.size < w'.heap.size ∧ pb < w'.heap.size ∧ w'.cell? ⟨W.heap.size, 0, none⟩ = some (.int .i64 a) ∧ w'.cell? ⟨W.heap.size, 1, none⟩ = some (.int .i64 b) ∧ w'.cell? ⟨W.heap.size, 2, none⟩ = some (.int .i64 d) ∧ w'.cell? ⟨pb, off + j * 4, none⟩ = some (.int .i64 x1) ∧ w'.cell? ⟨pb, off + j * 4 + 1, none⟩ = some (.int .i64 x2) ∧ w'.cell? ⟨pb, off + j * 4 + 2, none⟩ = some (.int .i64 x3))
          (first | (with_reducible exact K0.out) | (with_reducible exact keep_six hb1 K0.out) | (with_reducible exact keep_six hb2 (keep_six hb1 K0.out)))
          (first
            | (go_at_call 17; ((with_reducible refine (C1.out _).mono ?_); rintro e w1 ⟨rfl, hb1⟩))
            | (go_at_call 17; ((with_reducible refine (C2.out _).mono ?_); rintro e w2 ⟨rfl, hb2⟩)))
        have HR := keep_six hb2 (keep_six hb1 K0.out)
        have hbw : Below wr.heap.size wr w2 := (Below.refl wr.heap.size wr).drew.trans (hb1.trans (hb2.mono hb1.size))
        have HZ := Lib.hid (HB.out.below hbw)
        have q6 := (hbw.cell (p := ⟨pb, off + j * 4 + 3, none⟩) HK3.out.1).trans HK3.out.2
        obtain ⟨-, -, -, q0, q1, q2, q3, q4, q5⟩ := HR
        clear hbw hb1 hb2
        have hT : putsP n noneP (lst f m) (slotP n (a, b, d)) = some ((x1, x2, x3), x4) := by
          rw [← HX.out]
          exact puts_last (lst_at f hjm) (by rw [HX.out, ← HS.out]; exact HS1.out.symm) (fun j' y hj' hy => by
            obtain ⟨hjm', rfl⟩ := lst_of f hy
            rw [← HS.out]
            exact HF.out j' (by omega) hjm') noneP
        have hG : getP n (putsP n noneP (lst f m)) (a, b, d) = atP (some ((x1, x2, x3), x4)) (a, b, d) := by unfold getP; rw [hT]
        have HG := Lib.hid hG
        clear hT hG
        cases hk : sameK x1 x2 x3 a b d
        · have hv : atP (some ((x1, x2, x3), x4)) (a, b, d) = (0, false) := by
            have := (sameK_iff (x1, x2, x3) (a, b, d)).symm.trans hk
            show (if _ then _ else _) = _
            rw [if_neg (of_decide_eq_false this)]
          have HV := Lib.hid (HG.out.trans hv)
          clear hv
          go_wp2_with fail
          go_quiet (fail)
          go_wp2_with fail
          go_ret2
          unfold RetGet
          rw [HV.out]
          exact ⟨rfl, HZ.out.2.trans ((drewN_below _ _).mono HZ.out.2.size)⟩
        · have hv : atP (some ((x1, x2, x3), x4)) (a, b, d) = (x4, true) := by
            have := (sameK_iff (x1, x2, x3) (a, b, d)).symm.trans hk
            show (if _ then _ else _) = _
            rw [if_pos (of_decide_eq_true this)]
          have HV := Lib.hid (HG.out.trans hv)
          clear hv
          go_wp2_with fail
          go_quiet (fail)
          go_wp2_with fail
          go_ret2
          unfold RetGet
          rw [HV.out]
          exact ⟨rfl, HZ.out.2.trans ((drewN_below _ _).mono HZ.out.2.size)⟩
      · have hne : ¬ ((s1 : Int) = (s : Int)) := by omega
        have d1 : ((s1 : Int) == (s : Int)) = false := by simp; omega
        have d2 : (s1 == s) = false := by simpa using he
        have HNE := Lib.hid he
        clear he
        go_wp2_with fail
        go_region_held3 (fun w' => Below W.heap.size W w' ∧ W.heap.size < w'.heap.size ∧ pb < w'.heap.size ∧ w'.cell? ⟨W.heap.size, 0, none⟩ = some (.int .i64 a) ∧ w'.cell? ⟨W.heap.size, 1, none⟩ = some (.int .i64 b) ∧ w'.cell? ⟨W.heap.size, 2, none⟩ = some (.int .i64 d) ∧ w'.cell? ⟨pb, off + j * 4, none⟩ = some (.int .i64 x1) ∧ w'.cell? ⟨pb, off + j * 4 + 1, none⟩ = some (.int .i64 x2) ∧ w'.cell? ⟨pb, off + j * 4 + 2, none⟩ = some (.int .i64 x3))
          (first | (with_reducible exact K0.out) | (with_reducible exact keep_six hb1 K0.out) | (with_reducible exact keep_six hb2 (keep_six hb1 K0.out)))
          (first
            | (go_at_call 17; ((with_reducible refine (C1.out _).mono ?_); rintro e w1 ⟨rfl, hb1⟩))
            | (go_at_call 17; ((with_reducible refine (C2.out _).mono ?_); rintro e w2 ⟨rfl, hb2⟩)))
        have HR := keep_six hb2 (keep_six hb1 K0.out)
        have hbw : Below wr.heap.size wr w2 := (Below.refl wr.heap.size wr).drew.trans (hb1.trans (hb2.mono hb1.size))
        have HZ := Lib.hid (HB.out.below hbw)
        clear hbw hb1 hb2 HR
        go_wp2_with fail
        have hg1 := hgm
        go_roundg j
        case measure => omega
        case rel => exact ⟨(j : Int) - 1, rfl, by omega, by omega, fun j' h1 h2 => by
                      by_cases e : j' = j
                      · rw [e, HX.out]; exact fun h => HNE.out (HS1.out.trans h)
                      · exact HF.out j' (by omega) h2, HZ.out⟩
end
end Go.Proofs.Ytchipmiklbnedab
