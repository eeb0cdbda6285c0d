/- The tree layer: the document's WholeStmts: have statements what they must? -/
import Derived.Test.YtklfcjimgnnlfaaDoorTrRefW
import Derived.Test.YtklfcjimgnnlfaaDoorTrPg
import Derived.Deep.CutBlock
import Derived.Deep.DeepCutAuto
namespace Go.Proofs.YtklfcjimgnnlfaaDoor
open Go.RowKit
/-- How many expressions a statement has, by its Op. -/
def manyS (o : ByteArray) (ne : Nat) : Option Nat :=
  if (o.toList == sSet) || ((o.toList == sAssert) || ((o.toList == sAssume) || ((o.toList == sIf) || (o.toList == sWhile)))) then some 1
  else if o.toList == sPut then some 2
  else if o.toList == sInput then some (if 0 < ne then 2 else 0)
  else if (o.toList == sCall) || (o.toList == sSkip) then some 0 else none
def headS (o : ByteArray) (ne na nb : Nat) : Bool :=
  (manyS o ne == some ne) && (((o.toList == sIf) || decide (nb = 0)) && (((o.toList == sIf) || (o.toList == sWhile)) || decide (na = 0)))
mutual
def wholeS : St → Bool
  | .mk o _ e A B _ => headS o e.length A.length B.length && (wholeL e && (wholeB A && wholeB B))
def wholeB : List St → Bool
  | [] => true
  | s :: r => wholeS s && wholeB r
end
theorem wholeS_X (x : St) : wholeS x = (headS x.op x.e.length x.A.length x.B.length && (wholeL x.e && (wholeB x.A && wholeB x.B))) := by cases x; rfl
theorem wholeB_at {l : List St} {i : Nat} {x : St} (h : wholeB l = true) (hx : l[i]? = some x) : wholeS x = true := by
  induction l generalizing i with
  | nil => simp at hx
  | cons y l ih =>
    simp only [wholeB, Bool.and_eq_true] at h
    cases i with
    | zero => simp at hx; subst hx; exact h.1
    | succ i => exact ih h.2 (by simpa using hx)
theorem wholeB_take {l : List St} {k : Nat} {x : St} (h : l[k]? = some x) : wholeB (l.take (k + 1)) = (wholeB (l.take k) && wholeS x) := by
  rw [take_one h]
  generalize l.take k = r
  induction r with
  | nil => simp [wholeB]
  | cons y r ih => simp only [List.cons_append, wholeB, ih, Bool.and_assoc]
theorem manyS_cases {o : ByteArray} {ne mm : Nat} (h : manyS o ne = some mm) : (o = ⟨#[115, 101, 116]⟩ ∧ mm = 1) ∨ (o = ⟨#[97, 115, 115, 101, 114, 116]⟩ ∧ mm = 1) ∨ (o = ⟨#[97, 115, 115, 117, 109, 101]⟩ ∧ mm = 1) ∨ (o = ⟨#[105, 102]⟩ ∧ mm = 1) ∨ (o = ⟨#[119, 104, 105, 108, 101]⟩ ∧ mm = 1) ∨ (o = ⟨#[112, 117, 116]⟩ ∧ mm = 2) ∨ (o = ⟨#[105, 110, 112, 117, 116]⟩ ∧ 0 < ne ∧ mm = 2) ∨ (o = ⟨#[105, 110, 112, 117, 116]⟩ ∧ ne = 0 ∧ mm = 0) ∨ (o = ⟨#[99, 97, 108, 108]⟩ ∧ mm = 0) ∨ (o = ⟨#[115, 107, 105, 112]⟩ ∧ mm = 0) := by
  unfold manyS at h
  split at h
  · rename_i c
    injection h with h
    subst h
    simp only [Bool.or_eq_true] at c
    rcases c with c | c | c | c | c
    · exact .inl ⟨lit_of c, rfl⟩
    · exact .inr (.inl ⟨lit_of c, rfl⟩)
    · exact .inr (.inr (.inl ⟨lit_of c, rfl⟩))
    · exact .inr (.inr (.inr (.inl ⟨lit_of c, rfl⟩)))
    · exact .inr (.inr (.inr (.inr (.inl ⟨lit_of c, rfl⟩))))
  · split at h
    · rename_i c
      injection h with h
      subst h
      exact .inr (.inr (.inr (.inr (.inr (.inl ⟨lit_of c, rfl⟩)))))
    · split at h
      · rename_i c
        injection h with h
        subst h
        by_cases hn : 0 < ne
        · exact .inr (.inr (.inr (.inr (.inr (.inr (.inl ⟨lit_of c, hn, by rw [if_pos hn]⟩))))))
        · exact .inr (.inr (.inr (.inr (.inr (.inr (.inr (.inl ⟨lit_of c, by omega, by rw [if_neg hn]⟩)))))))
      · split at h
        · rename_i c
          injection h with h
          subst h
          simp only [Bool.or_eq_true] at c
          rcases c with c | c
          · exact .inr (.inr (.inr (.inr (.inr (.inr (.inr (.inr (.inl ⟨lit_of c, rfl⟩))))))))
          · exact .inr (.inr (.inr (.inr (.inr (.inr (.inr (.inr (.inr ⟨lit_of c, rfl⟩))))))))
        · cases h
theorem manyS_none {o : ByteArray} {ne : Nat} (h : manyS o ne = none) : (o.toList == [115, 101, 116]) = false ∧ (o.toList == [97, 115, 115, 101, 114, 116]) = false ∧ (o.toList == [97, 115, 115, 117, 109, 101]) = false ∧ (o.toList == [105, 102]) = false ∧ (o.toList == [119, 104, 105, 108, 101]) = false ∧ (o.toList == [112, 117, 116]) = false ∧ (o.toList == [105, 110, 112, 117, 116]) = false ∧ (o.toList == [99, 97, 108, 108]) = false ∧ (o.toList == [115, 107, 105, 112]) = false := by
  unfold manyS at h
  split at h
  · cases h
  · rename_i c1
    split at h
    · cases h
    · rename_i c2
      split at h
      · cases h
      · rename_i c3
        split at h
        · cases h
        · rename_i c4
          simp only [Bool.or_eq_true, not_or, Bool.not_eq_true] at c1 c2 c3 c4
          exact ⟨c1.1, c1.2.1, c1.2.2.1, c1.2.2.2.1, c1.2.2.2.2, c2, c3, c4.1, c4.2⟩
theorem ExR.at_ {P : Nat → Prop} {n : Nat} {w : World} {l : List Ex} {A : Option Addr} {m c : Nat} (h : ExR P n w l (.slice A m c)) : ∀ (i : Nat) (x : Ex), l[i]? = some x → ∃ b off L, A = some ⟨b, off, none⟩ ∧ P b ∧ At5 w b (off + i * 5) x L ∧ In64 x.n ∧ In64 x.a ∧ ExR P (n - 1) w x.l L := by
  cases n with
  | zero => exact h.elim
  | succ n =>
    obtain ⟨A', cap, e, -, -, h4⟩ := h
    injection e with e1 e2 e3
    subst e1
    exact h4
section
set_option maxRecDepth 100000 in
set_option maxHeartbeats 25600000 in
theorem rwholeB_any (n : Nat) : ∀ (P : Nat → Prop) (l : List St) (v : Value) (W : World), StR P n W l v → (∀ b, P b → b < W.heap.size) → Calls Tryd.prog 27 #[v] W (fun e w' => e = .returned (.bool (wholeB l)) ∧ Below W.heap.size W w') := by
  induction n with
  | zero => intro P l v W h; exact h.elim
  | succ n ih =>
    intro P l v W h hP
    obtain ⟨A, cap, rfl, hc, hl, hat⟩ := h
    have HAt := Lib.hid hat
    have HIH := Lib.hid ih
    have hl2 : l.length ≤ 2199023255552 := by omega
    clear hat ih hl
    obtain ⟨m, hm⟩ : ∃ m, l.length = m := ⟨_, rfl⟩
    have HM := Lib.hid hm
    rw [hm] at hl2 hc ⊢
    clear hm
    go_enter Tryd.func27, Tryd.ntmps27
    go_wp2_with fail
    go_loopw [3] (fun i wr => ∃ k : Nat, i = .int .i64 (k : Int) ∧ k ≤ m ∧ Hid (wholeB (l.take k) = true) ∧ Below W.heap.size W wr) (fun i _ => m - (RowKit.intOf i).toNat)
    case atStart => exact ⟨0, rfl, Nat.zero_le _, Lib.hid (by rw [List.take_zero]; rfl), Below.refl _ _⟩
    case round =>
      obtain ⟨k, rfl, hk, HWh, hbw⟩ := hrel
      have HBw := Lib.hid hbw
      clear hbw
      by_cases hlt : k < m
      · obtain ⟨x, hx⟩ : ∃ x, l[k]? = some x := ⟨l[k]'(by rw [HM.out]; exact hlt), List.getElem?_eq_getElem _⟩
        obtain ⟨b, off, LE, LA, LB, rfl, hbB, hcell, -, hE, hA, hB'⟩ := HAt.out k x hx
        obtain ⟨y0, y1, y2, y3, y4, y5⟩ := hcell.below HBw.out (hP b hbB)
        obtain ⟨Ae, ce, rfl, hce, hle⟩ := hE.slice
        obtain ⟨Aa, ca, rfl, hca, hla⟩ := hA.slice
        obtain ⟨Ab, cb, rfl, hcb, hlb⟩ := hB'.slice
        have HXW := Lib.hid (wholeS_X x)
        have HS : Hid (wholeB (l.take (k + 1)) = wholeS x) := Lib.hid (by rw [wholeB_take hx, HWh.out]; rfl)
        have HF : Hid (wholeS x = false → wholeB l = false) := Lib.hid (fun e => by
          cases z : wholeB l with
          | false => rfl
          | true => rw [wholeB_at z hx] at e; cases e)
        obtain ⟨op, hop⟩ : ∃ q, x.op = q := ⟨_, rfl⟩
        obtain ⟨ne, hne⟩ : ∃ q, x.e.length = q := ⟨_, rfl⟩
        obtain ⟨na, hna⟩ : ∃ q, x.A.length = q := ⟨_, rfl⟩
        obtain ⟨nb, hnb⟩ : ∃ q, x.B.length = q := ⟨_, rfl⟩
        have HNe := Lib.hid hne
        rw [hop] at y0 HXW
        rw [hne] at y2 HXW hE hce hle
        rw [hna] at y3 HXW hA hca hla
        rw [hnb] at y4 HXW hB' hcb hlb
        have hle2 : ne ≤ 2199023255552 := by omega
        obtain ⟨bA, hbA⟩ : ∃ q, wholeB x.A = q := ⟨_, rfl⟩
        obtain ⟨bB, hbB2⟩ : ∃ q, wholeB x.B = q := ⟨_, rfl⟩
        obtain ⟨hd, hhd⟩ : ∃ q, headS op ne na nb = q := ⟨_, rfl⟩
        rw [hbA, hbB2, hhd] at HXW
        have HHd := Lib.hid hhd
        obtain ⟨W1, hW1⟩ : ∃ W1, W1 = wr.alloc (.cells #[.string op, .string x.nm, .slice Ae ne ce, .slice Aa na ca, .slice Ab nb cb, .int .i64 x.a] 72) := ⟨_, rfl⟩
        have HB1 : Hid (Below wr.heap.size wr W1) := Lib.hid (by rw [hW1]; exact (Below.refl _ _).alloc (Nat.le_refl _) _)
        have HK : Hid (Blk W1 wr.heap.size 72 #[.string op, .string x.nm, .slice Ae ne ce, .slice Aa na ca, .slice Ab nb cb, .int .i64 x.a]) := Lib.hid (by rw [hW1]; exact Blk.new wr _ _)
        have HQ : Hid (∀ w2, Below W1.heap.size W1 w2 → Below W.heap.size W w2) := Lib.hid fun w2 hb2 => thru (thru HBw.out HB1.out) hb2
        have HCA : Hid (∀ w2, Below W1.heap.size W1 w2 → Calls Tryd.prog 27 #[.slice Aa na ca] w2 (fun e w' => e = .returned (.bool bA) ∧ Below w2.heap.size w2 w')) := Lib.hid fun w2 hb2 => by
          rw [← hbA]
          exact HIH.out P x.A _ w2 (hA.below (HQ.out w2 hb2) hP) (lo_up hP (HQ.out w2 hb2).size)
        have HCB : Hid (∀ w2, Below W1.heap.size W1 w2 → Calls Tryd.prog 27 #[.slice Ab nb cb] w2 (fun e w' => e = .returned (.bool bB) ∧ Below w2.heap.size w2 w')) := Lib.hid fun w2 hb2 => by
          rw [← hbB2]
          exact HIH.out P x.B _ w2 (hB'.below (HQ.out w2 hb2) hP) (lo_up hP (HQ.out w2 hb2).size)
        have HC4 : Hid (∀ w2, Below W1.heap.size W1 w2 → w2.cell? ⟨wr.heap.size, 0, none⟩ = some (.string op) ∧ w2.cell? ⟨wr.heap.size, 2, none⟩ = some (.slice Ae ne ce) ∧ w2.cell? ⟨wr.heap.size, 3, none⟩ = some (.slice Aa na ca) ∧ w2.cell? ⟨wr.heap.size, 4, none⟩ = some (.slice Ab nb cb)) := Lib.hid fun w2 hb => ⟨(HK.out.below hb HK.out.lt).cell 0, (HK.out.below hb HK.out.lt).cell 2, (HK.out.below hb HK.out.lt).cell 3, (HK.out.below hb HK.out.lt).cell 4⟩
        have HE := Lib.hid hE
        have HW1 := Lib.hid hW1
        have D0 : Hid (Below W1.heap.size W1 W1) := Lib.hid (Below.refl _ _)
        have HWs := Lib.hid HWh.out
        clear hW1 hE hA hB' hx hcell hop hne hna hnb hbA hbB2 hhd hce hca hcb hle hla hlb HWh
        obtain ⟨z0, z2, z3, z4⟩ := HC4.out _ D0.out
        rcases hmany : manyS op ne with _ | mm
        · have HR2 : Hid (hd = false) := Lib.hid (by rw [← HHd.out]; unfold headS; rw [hmany]; rfl)
          have HZ : Hid (wholeB l = false) := Lib.hid (HF.out (by rw [HXW.out, HR2.out]; rfl))
          obtain ⟨g0, g1, g2, g3, g4, g5, g6, g7, g8⟩ := manyS_none hmany
          clear hmany
          go_upto_region 5 with fail
          rw [← HW1.out]
          clear y0 y1 y2 y3 y4 y5
          go_wp2_with fail
          go_ret
          exact ⟨by rw [HZ.out]; try rfl, HQ.out _ D0.out⟩
        · have HM2 := Lib.hid hmany
          have hmb : mm ≤ 2 := by
            rcases manyS_cases hmany with ⟨-, e⟩ | ⟨-, e⟩ | ⟨-, e⟩ | ⟨-, e⟩ | ⟨-, e⟩ | ⟨-, e⟩ | ⟨-, -, e⟩ | ⟨-, -, e⟩ | ⟨-, e⟩ | ⟨-, e⟩
            all_goals omega
          clear hmany
          go_upto_region 5 with fail
          rw [← HW1.out]
          clear y0 y1 y2 y3 y4 y5
          go_upto_block 2 with fail
          go_cut [5] (fun t5 wx => t5 = .int .i64 (mm : Int) ∧ wx = W1)
          case first =>
            have hc2 := manyS_cases HM2.out
            clear HIH HAt HHd HB1 HK HW1 HM2 HM HXW HS HF HCA HCB HC4 HQ HE HWs HNe HBw
            rcases hc2 with ⟨rfl, rfl⟩ | ⟨rfl, rfl⟩ | ⟨rfl, rfl⟩ | ⟨rfl, rfl⟩ | ⟨rfl, rfl⟩ | ⟨rfl, rfl⟩ | ⟨rfl, hne, rfl⟩ | ⟨rfl, rfl, rfl⟩ | ⟨rfl, rfl⟩ | ⟨rfl, rfl⟩
            all_goals (go_wp2_with fail; go_meet; exact ⟨rfl, rfl⟩)
          case rest =>
            obtain ⟨rfl, hwc⟩ := hcut
            have hwc2 := hwc.symm
            subst hwc2
            clear hwc
            go_upto_region 22 with fail
            go_cut [67] (fun t67 wx => t67 = .bool (!hd) ∧ wx = W1)
            case first =>
              by_cases hlen : ne = mm
              · obtain rfl := hlen
                have g0 : ((ne : Int) != (ne : Int)) = false := by simp
                have HH2 : Hid (hd = (((op.toList == sIf) || decide (nb = 0)) && (((op.toList == sIf) || (op.toList == sWhile)) || decide (na = 0)))) := Lib.hid (by rw [← HHd.out]; unfold headS; rw [HM2.out]; simp)
                clear HHd HM2
                cases hi : (op.toList == [105, 102])
                · by_cases hb0 : 0 < nb
                  · have HV : Hid (hd = false) := Lib.hid (by rw [HH2.out, show (op.toList == sIf) = false from hi]; simp; omega)
                    go_wp2_with fail
                    go_meet
                    exact ⟨by rw [HV.out]; rfl, rfl⟩
                  · obtain rfl : nb = 0 := by omega
                    cases hw : (op.toList == [119, 104, 105, 108, 101])
                    · by_cases ha0 : 0 < na
                      · have HV : Hid (hd = false) := Lib.hid (by rw [HH2.out, show (op.toList == sIf) = false from hi, show (op.toList == sWhile) = false from hw]; simp; omega)
                        go_wp2_with fail
                        go_meet
                        exact ⟨by rw [HV.out]; rfl, rfl⟩
                      · obtain rfl : na = 0 := by omega
                        have HV : Hid (hd = true) := Lib.hid (by rw [HH2.out]; simp)
                        go_wp2_with fail
                        go_meet
                        exact ⟨by rw [HV.out]; rfl, rfl⟩
                    · have HV : Hid (hd = true) := Lib.hid (by rw [HH2.out, show (op.toList == sWhile) = true from hw]; simp)
                      go_wp2_with fail
                      go_meet
                      exact ⟨by rw [HV.out]; rfl, rfl⟩
                · have HV : Hid (hd = true) := Lib.hid (by rw [HH2.out, show (op.toList == sIf) = true from hi]; simp)
                  go_wp2_with fail
                  go_meet
                  exact ⟨by rw [HV.out]; rfl, rfl⟩
              · have g0 : ((ne : Int) != (mm : Int)) = true := by simp; omega
                have HV : Hid (hd = false) := Lib.hid (by rw [← HHd.out]; unfold headS; rw [HM2.out]; simp; intro e; exact absurd e.symm hlen)
                clear hlen
                go_wp2_with fail
                go_meet
                exact ⟨by rw [HV.out]; rfl, rfl⟩
            case rest =>
              obtain ⟨rfl, hwc⟩ := hcut
              have hwc2 := hwc.symm
              subst hwc2
              clear hwc
              cases hd
              · have HZ : Hid (wholeB l = false) := Lib.hid (HF.out (by rw [HXW.out]; rfl))
                go_wp2_with fail
                go_ret
                exact ⟨by rw [HZ.out]; try rfl, HQ.out _ D0.out⟩
              · have hmm : ne = mm := by
                  have := HHd.out
                  unfold headS at this
                  simp only [Bool.and_eq_true, beq_iff_eq] at this
                  have e := this.1
                  rw [HM2.out] at e
                  injection e with e
                  exact e.symm
                obtain rfl := hmm
                clear HHd HM2
                obtain ⟨wa, hwa⟩ : ∃ x, x = wr := ⟨_, rfl⟩
                rw [← hwa] at HBw HB1 HK HW1 HC4 z0 z2 z3 z4 ⊢
                clear hwa
                go_wp2_with fail
                clear z0 z2 z3 z4
                go_loopw [6] (fun i w6 => ∃ j : Nat, i = .int .i64 (j : Int) ∧ j ≤ ne ∧ Hid (wholeL (x.e.take j) = true) ∧ Below W1.heap.size W1 w6) (fun i _ => ne - (RowKit.intOf i).toNat)
                case atStart => exact ⟨0, rfl, Nat.zero_le _, Lib.hid (by rw [List.take_zero]; rfl), Below.refl _ _⟩
                case round =>
                  obtain ⟨j, rfl, hj, HWe, hb6⟩ := hrel
                  have HB6 := Lib.hid hb6
                  clear hb6
                  obtain ⟨z0, z2, z3, z4⟩ := HC4.out _ HB6.out
                  by_cases hjt : j < ne
                  · obtain ⟨y, hy⟩ : ∃ y, x.e[j]? = some y := ⟨x.e[j]'(by rw [HNe.out]; exact hjt), List.getElem?_eq_getElem _⟩
                    obtain ⟨b3, off3, L, rfl, hbB3, hat3, -, -, hr3⟩ := HE.out.at_ j y hy
                    have hbq : Below W.heap.size W _ := HQ.out _ HB6.out
                    obtain ⟨y0, y1, y2, y3, y4⟩ := hat3.below hbq (hP b3 hbB3)
                    obtain ⟨A', cap', rfl, hc', -⟩ := hr3.slice
                    obtain ⟨bx, hbx⟩ : ∃ bx, bx = wholeE y := ⟨_, rfl⟩
                    have HSj : Hid (wholeL (x.e.take (j + 1)) = bx) := Lib.hid (by rw [wholeL_take hy, HWe.out, hbx]; rfl)
                    have HFj : Hid (bx = false → wholeL x.e = false) := Lib.hid (fun e => by
                      cases z : wholeL x.e with
                      | false => rfl
                      | true => rw [hbx, wholeL_at z hy] at e; cases e)
                    have HC : Hid (∀ w6, Below W1.heap.size W1 w6 → Calls Tryd.prog 50 #[exV y.op y.nm y.n (.slice A' y.l.length cap') y.a] w6 (fun e w' => e = .returned (.bool bx) ∧ Below w6.heap.size w6 w')) := Lib.hid (fun w6 hb6 => by
                      have q := HQ.out w6 hb6
                      rw [hbx, wholeE_X]
                      exact rwhole_any (n - 1) P y.l _ _ _ _ _ w6 (hr3.below q hP) (lo_up hP q.size))
                    clear hbx hat3 hr3 hbq HWe hy
                    cases bx
                    · have HZ : Hid (wholeB l = false) := Lib.hid (HF.out (by rw [HXW.out, HFj.out rfl]; rfl))
                      clear HFj
                      go_wp2_with (go_at_call 50; have HX := HC.out _ HB6.out; (with_reducible refine HX.mono ?_); clear HX; rintro e w7 ⟨rfl, hb⟩; have HB7 := Lib.hid (thru HB6.out hb); clear hb)
                      go_ret
                      exact ⟨by rw [HZ.out]; try rfl, HQ.out _ HB7.out⟩
                    · go_wp2_with (go_at_call 50; have HX := HC.out _ HB6.out; (with_reducible refine HX.mono ?_); clear HX; rintro e w7 ⟨rfl, hb⟩; have HB7 := Lib.hid (thru HB6.out hb); clear hb)
                      go_roundw
                      case rel => exact ⟨_, _, _, _, _, _, _, _, _, _, _, _, _, _, ⟨j + 1, by go_num, hjt, HSj, HB7.out⟩, rfl⟩
                      case measure => simp [RowKit.intOf]; omega
                  · have he : j = ne := by omega
                    subst he
                    have HWl : Hid (wholeL x.e = true) := Lib.hid (by rw [← HWe.out, ← HNe.out, List.take_length])
                    clear HWe
                    cases bA
                    · have HZ : Hid (wholeB l = false) := Lib.hid (HF.out (by rw [HXW.out, HWl.out]; rfl))
                      go_wp2_with (go_at_call 27; have HX := HCA.out _ HB6.out; (with_reducible refine HX.mono ?_); clear HX; rintro e w7 ⟨rfl, hb⟩; have HB7 := Lib.hid (thru HB6.out hb); clear hb)
                      go_ret
                      exact ⟨by rw [HZ.out]; try rfl, HQ.out _ HB7.out⟩
                    · cases bB
                      · have HZ : Hid (wholeB l = false) := Lib.hid (HF.out (by rw [HXW.out, HWl.out]; rfl))
                        go_wp2_with (first
                          | (go_at_call 27; have HX := HCA.out _ HB6.out; (with_reducible refine HX.mono ?_); clear HX; rintro e w7 ⟨rfl, hb⟩; have HB7 := Lib.hid (thru HB6.out hb); obtain ⟨q0, q2, q3, q4⟩ := HC4.out _ HB7.out; clear hb)
                          | (go_at_call 27; have HX := HCB.out _ HB7.out; (with_reducible refine HX.mono ?_); clear HX; rintro e w8 ⟨rfl, hb⟩; have HB8 := Lib.hid (thru HB7.out hb); clear hb))
                        go_ret
                        exact ⟨by rw [HZ.out]; try rfl, HQ.out _ HB8.out⟩
                      · have HZ : Hid (wholeB (l.take (k + 1)) = true) := Lib.hid (by rw [HS.out, HXW.out, HWl.out]; rfl)
                        go_wp2_with (first
                          | (go_at_call 27; have HX := HCA.out _ HB6.out; (with_reducible refine HX.mono ?_); clear HX; rintro e w7 ⟨rfl, hb⟩; have HB7 := Lib.hid (thru HB6.out hb); obtain ⟨q0, q2, q3, q4⟩ := HC4.out _ HB7.out; clear hb)
                          | (go_at_call 27; have HX := HCB.out _ HB7.out; (with_reducible refine HX.mono ?_); clear HX; rintro e w8 ⟨rfl, hb⟩; have HB8 := Lib.hid (thru HB7.out hb); clear hb))
                        go_roundw
                        case rel => exact ⟨k + 1, by go_num, hlt, HZ, HQ.out _ HB8.out⟩
                        case measure => simp [RowKit.intOf]; omega
      · have he : k = m := by omega
        subst he
        have HZ : Hid (wholeB l = true) := Lib.hid (by rw [← HWh.out, ← HM.out, List.take_length])
        go_wp2_with fail
        go_ret
        exact ⟨by rw [HZ.out]; try rfl, HBw.out⟩
end
/-- Of a whole program. -/
def wholeP (p : Pg) : Bool := p.procs.all (fun q => wholeB q.2) && wholeB p.main
section
set_option maxRecDepth 100000 in
set_option maxHeartbeats 6400000 in
theorem rwholeP_any (n : Nat) (p : Pg) (vE vV vP vM : Value) (P : Nat → Prop) (W : World) (h : PgR P n W p vE vV vP vM) (hP : ∀ b, P b → b < W.heap.size) : Calls Tryd.prog 12 #[pgV vE vV vP vM] W (fun e w' => e = .returned (.bool (wholeP p)) ∧ Below W.heap.size W w') := by
  obtain ⟨A1, c1, rfl, -, -⟩ := h.en.slice
  obtain ⟨A2, c2, rfl, -, -⟩ := h.va.slice
  obtain ⟨A3, c3, rfl, hc3, hl3, hat⟩ := h.pr
  obtain ⟨A4, c4, rfl, -, -⟩ := h.mn.slice
  have HAt := Lib.hid hat
  have HM4 := Lib.hid h.mn
  have hz3 : p.procs.length ≤ 35184372088832 := by omega
  clear hat hl3 h
  obtain ⟨r, hr⟩ : ∃ r, p.procs.length = r := ⟨_, rfl⟩
  have HR := Lib.hid hr
  rw [hr] at hz3 hc3 ⊢
  clear hr
  obtain ⟨bm, hbm⟩ : ∃ q, wholeB p.main = q := ⟨_, rfl⟩
  have HPr : Hid (wholeP p = (p.procs.all (fun q => wholeB q.2) && bm)) := Lib.hid (by rw [← hbm]; rfl)
  obtain ⟨W1, hW1⟩ : ∃ W1, W1 = W.alloc (.cells #[.slice A1 p.enums.length c1, .slice A2 p.vars.length c2, .slice A3 r c3, .slice A4 p.main.length c4] 27) := ⟨_, rfl⟩
  have HB1 : Hid (Below W.heap.size W W1) := Lib.hid (by rw [hW1]; exact (Below.refl _ _).alloc (Nat.le_refl _) _)
  have HK : Hid (Blk W1 W.heap.size 27 #[.slice A1 p.enums.length c1, .slice A2 p.vars.length c2, .slice A3 r c3, .slice A4 p.main.length c4]) := Lib.hid (by rw [hW1]; exact Blk.new W _ _)
  have HC2 : Hid (∀ w2, Below W1.heap.size W1 w2 → w2.cell? ⟨W.heap.size, 2, none⟩ = some (.slice A3 r c3) ∧ w2.cell? ⟨W.heap.size, 3, none⟩ = some (.slice A4 p.main.length c4)) := Lib.hid fun w2 hb => ⟨(HK.out.below hb HK.out.lt).cell 2, (HK.out.below hb HK.out.lt).cell 3⟩
  have HCM : Hid (∀ w2, Below W1.heap.size W1 w2 → Calls Tryd.prog 27 #[.slice A4 p.main.length c4] w2 (fun e w' => e = .returned (.bool bm) ∧ Below w2.heap.size w2 w')) := Lib.hid fun w2 hb => by
    rw [← hbm]
    exact rwholeB_any n P p.main _ w2 (HM4.out.below (thru HB1.out hb) hP) (lo_up hP (thru HB1.out hb).size)
  have HW1 := Lib.hid hW1
  clear hW1 hbm
  go_enter Tryd.func12, Tryd.ntmps12
  go_upto_region 1 with fail
  rw [← HW1.out]
  go_wp2_with fail
  go_loopw [3] (fun i wr => ∃ k : Nat, i = .int .i64 (k : Int) ∧ k ≤ r ∧ Hid ((p.procs.take k).all (fun q => wholeB q.2) = true) ∧ Below W1.heap.size W1 wr) (fun i _ => r - (RowKit.intOf i).toNat)
  case atStart => exact ⟨0, rfl, Nat.zero_le _, Lib.hid (by rw [List.take_zero]; rfl), Below.refl _ _⟩
  case round =>
    obtain ⟨k, rfl, hk, HWh, hbw⟩ := hrel
    have HBw := Lib.hid hbw
    clear hbw
    obtain ⟨z2, z3⟩ := HC2.out _ HBw.out
    by_cases hlt : k < r
    · obtain ⟨x, hx⟩ : ∃ x, p.procs[k]? = some x := ⟨p.procs[k]'(by rw [HR.out]; exact hlt), List.getElem?_eq_getElem _⟩
      obtain ⟨b, off, L, rfl, hbB, hcc, hstr⟩ := HAt.out k x hx
      obtain ⟨x0, x1⟩ := keep2 hcc ((thru HB1.out HBw.out).block b (hP b hbB))
      obtain ⟨AL, cL, rfl, -, -⟩ := hstr.slice
      obtain ⟨bx, hbx⟩ : ∃ q, wholeB x.2 = q := ⟨_, rfl⟩
      have HS : Hid ((p.procs.take (k + 1)).all (fun q => wholeB q.2) = bx) := Lib.hid (by rw [take_one hx, List.all_append, HWh.out]; simp [hbx])
      have HF : Hid (bx = false → wholeP p = false) := Lib.hid (fun e => by
        have : p.procs.all (fun q => wholeB q.2) = false := by
          cases z : p.procs.all (fun q => wholeB q.2) with
          | false => rfl
          | true =>
            have h1 := List.all_eq_true.1 z x (List.mem_of_getElem? hx)
            rw [hbx, e] at h1; cases h1
        unfold wholeP; rw [this]; rfl)
      have HC : Hid (∀ w2, Below W1.heap.size W1 w2 → Calls Tryd.prog 27 #[.slice AL x.2.length cL] w2 (fun e w' => e = .returned (.bool bx) ∧ Below w2.heap.size w2 w')) := Lib.hid fun w2 hb => by
        rw [← hbx]
        exact rwholeB_any n P x.2 _ w2 (hstr.below (thru HB1.out hb) hP) (lo_up hP (thru HB1.out hb).size)
      clear hcc hstr hx hbx HWh
      cases bx
      · have HZ : Hid (wholeP p = false) := Lib.hid (HF.out rfl)
        clear HF
        go_wp2_with (go_at_call 27; have HX := HC.out _ HBw.out; (with_reducible refine HX.mono ?_); clear HX; rintro e w7 ⟨rfl, hb⟩; have HB7 := Lib.hid (thru HBw.out hb); clear hb)
        go_ret
        exact ⟨by rw [HZ.out]; try rfl, thru HB1.out HB7.out⟩
      · clear HF
        go_wp2_with (go_at_call 27; have HX := HC.out _ HBw.out; (with_reducible refine HX.mono ?_); clear HX; rintro e w7 ⟨rfl, hb⟩; have HB7 := Lib.hid (thru HBw.out hb); clear hb)
        go_roundw
        case rel => exact ⟨k + 1, by go_num, hlt, HS, HB7.out⟩
        case measure => simp [RowKit.intOf]; omega
    · have he : k = r := by omega
      subst he
      have HZ : Hid (wholeP p = bm) := Lib.hid (by
        have e := HWh.out
        rw [← HR.out, List.take_length] at e
        rw [HPr.out, e]; rfl)
      clear HWh
      go_wp2_with (go_at_call 27; have HX := HCM.out _ HBw.out; (with_reducible refine HX.mono ?_); clear HX; rintro e w7 ⟨rfl, hb⟩; have HB7 := Lib.hid (thru HBw.out hb); clear hb)
      go_ret
      exact ⟨by rw [HZ.out]; try rfl, thru HB1.out HB7.out⟩
end
end Go.Proofs.YtklfcjimgnnlfaaDoor
