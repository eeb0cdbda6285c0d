/- Put together of: TrRBlk, TrRPr. -/
import Derived.Test.YteaongdlbleehaaGreatDoorGTrRef
import Derived.Test.YteaongdlbleehaaGreatDoorTrTxt
import Derived.Deep.RegionHeld3
import Derived.Deep.CutBlock
import Derived.Deep.DeepCutAuto
import Derived.Test.YteaongdlbleehaaGreatDoorTrPrint
/- The tree layer: the document's block: statements as it writes them. -/
namespace Go.Proofs.YteaongdlbleehaaGreatDoor
open Go.RowKit
theorem stm_set (nm : ByteArray) (ts : List (Bs × Bool)) (ra rb : Bs) (nb d : Nat) : stmtF ⟨#[115, 101, 116]⟩ nm ts ra rb nb d = nm.data.toList ++ [32, 61, 32] ++ part0 ts 0 ++ [59] := by kernel_rfl
theorem stm_put (nm : ByteArray) (ts : List (Bs × Bool)) (ra rb : Bs) (nb d : Nat) : stmtF ⟨#[112, 117, 116]⟩ nm ts ra rb nb d = nm.data.toList ++ [91] ++ part0 ts 0 ++ [93] ++ [32, 61, 32] ++ part0 ts 1 ++ [59] := by kernel_rfl
theorem stm_input (nm : ByteArray) (ts : List (Bs × Bool)) (ra rb : Bs) (nb d : Nat) : stmtF ⟨#[105, 110, 112, 117, 116]⟩ nm ts ra rb nb d = nm.data.toList ++ [32, 61, 32, 105, 110, 112, 117, 116] ++ endsF ts ++ [59] := by kernel_rfl
theorem stm_assert (nm : ByteArray) (ts : List (Bs × Bool)) (ra rb : Bs) (nb d : Nat) : stmtF ⟨#[97, 115, 115, 101, 114, 116]⟩ nm ts ra rb nb d = (⟨#[97, 115, 115, 101, 114, 116]⟩ : ByteArray).data.toList ++ [32] ++ part0 ts 0 ++ [59] := by kernel_rfl
theorem stm_assume (nm : ByteArray) (ts : List (Bs × Bool)) (ra rb : Bs) (nb d : Nat) : stmtF ⟨#[97, 115, 115, 117, 109, 101]⟩ nm ts ra rb nb d = (⟨#[97, 115, 115, 117, 109, 101]⟩ : ByteArray).data.toList ++ [32] ++ part0 ts 0 ++ [59] := by kernel_rfl
theorem stm_call (nm : ByteArray) (ts : List (Bs × Bool)) (ra rb : Bs) (nb d : Nat) : stmtF ⟨#[99, 97, 108, 108]⟩ nm ts ra rb nb d = [99, 97, 108, 108, 32] ++ nm.data.toList ++ [59] := by kernel_rfl
theorem stm_skip (nm : ByteArray) (ts : List (Bs × Bool)) (ra rb : Bs) (nb d : Nat) : stmtF ⟨#[115, 107, 105, 112]⟩ nm ts ra rb nb d = (⟨#[115, 107, 105, 112]⟩ : ByteArray).data.toList ++ [59] := by kernel_rfl
theorem stm_while (nm : ByteArray) (ts : List (Bs × Bool)) (ra rb : Bs) (nb d : Nat) : stmtF ⟨#[119, 104, 105, 108, 101]⟩ nm ts ra rb nb d = (⟨#[119, 104, 105, 108, 101]⟩ : ByteArray).data.toList ++ [32] ++ part0 ts 0 ++ blockF d ra ++ [] := by kernel_rfl
theorem stm_if0 (nm : ByteArray) (ts : List (Bs × Bool)) (ra rb : Bs) (d : Nat) : stmtF ⟨#[105, 102]⟩ nm ts ra rb 0 d = (⟨#[105, 102]⟩ : ByteArray).data.toList ++ [32] ++ part0 ts 0 ++ blockF d ra ++ [] := by kernel_rfl
theorem stm_if1 (nm : ByteArray) (ts : List (Bs × Bool)) (ra rb : Bs) (nb d : Nat) (h : 0 < nb) : stmtF ⟨#[105, 102]⟩ nm ts ra rb nb d = (⟨#[105, 102]⟩ : ByteArray).data.toList ++ [32] ++ part0 ts 0 ++ blockF d ra ++ ([32, 101, 108, 115, 101] ++ blockF d rb) := by
  obtain ⟨nb, rfl⟩ : ∃ q, nb = q + 1 := ⟨nb - 1, by omega⟩
  kernel_rfl
/-- Two texts that may be joined. -/
def Fits (a b : ByteArray) : Prop := a.size + b.size ≤ 9223372036854775807
theorem cat_ok {P : Program} (w : World) (a b : ByteArray) (h : Fits a b) : (Op.stringOp .add a b).run P w = .ok (.string (a ++ b)) w := run_string_add_sum w a b h
attribute [local go_sem ↓] cat_ok
theorem ind_more (d : Nat) : ind d ++ [32, 32] = ind (d + 1) := by
  induction d with
  | zero => rfl
  | succ d ih => show [32, 32] ++ ind d ++ [32, 32] = [32, 32] ++ ind (d + 1); rw [List.append_assoc, ih]
theorem deeper {D : ByteArray} {d : Nat} (h : D.data.toList = ind d) : (D ++ (⟨#[32, 32]⟩ : ByteArray)).data.toList = ind (d + 1) := by
  rw [← ind_more, ← h]; simp
theorem textB_take {l : List St} {k : Nat} {x : St} (h : l[k]? = some x) (d : Nat) : textB Lib.itoa (l.take (k + 1)) d = textB Lib.itoa (l.take k) d ++ (ind d ++ textS Lib.itoa x d ++ [10]) := by
  rw [take_one h]
  generalize l.take k = r
  induction r with
  | nil => simp [textB]
  | cons y r ih => simp only [List.cons_append, textB, ih, List.append_assoc]
theorem textB_le {l : List St} (k d : Nat) : (textB Lib.itoa (l.take k) d).length ≤ (textB Lib.itoa l d).length := by
  have e : l = l.take k ++ l.drop k := (List.take_append_drop k l).symm
  have h : ∀ r s : List St, textB Lib.itoa (r ++ s) d = textB Lib.itoa r d ++ textB Lib.itoa s d := by
    intro r s
    induction r with
    | nil => rfl
    | cons y r ih => simp only [List.cons_append, textB, ih, List.append_assoc]
  have h2 := h (l.take k) (l.drop k)
  rw [List.take_append_drop] at h2
  rw [h2, List.length_append]
  omega
theorem len_two {α : Type} {l : List α} (h : l.length = 2) : ∃ y z, l = [y, z] := by
  match l, h with
  | [y, z], _ => exact ⟨y, z, rfl⟩
def CutB (W1 : World) (F : Bs) (t5 : Value) (wx : World) : Prop := ∃ O : ByteArray, t5 = .string O ∧ Hid (O.data.toList = F) ∧ Below W1.heap.size W1 wx
section
set_option maxRecDepth 100000 in
set_option maxHeartbeats 25600000 in
theorem rblock_any (n : Nat) : ∀ (P : Nat → Prop) (l : List St) (v : Value) (d : Nat) (D : ByteArray) (W : World), StR P n W l v → (∀ b, P b → b < W.heap.size) → wholeB l = true → D.data.toList = ind d → 2 * d ≤ 140737488355330 → (textB Lib.itoa l d).length ≤ 140737488355328 → Calls Tryz.prog 25 #[v, .string D] W (fun e w' => e = .returned (.string ⟨(textB Lib.itoa l d).toArray⟩) ∧ Below W.heap.size W w') := by
  induction n with
  | zero => intro P l v d D W h; exact h.elim
  | succ n ih =>
    intro P l v d D W h hP hwh hD hd hlen
    obtain ⟨A, cap, rfl, hc, hl, hat⟩ := h
    have HAt := Lib.hid hat
    have HIH := Lib.hid ih
    have hl2 : l.length ≤ 2199023255552 := by omega
    have HWh := Lib.hid hwh
    have HLen := Lib.hid hlen
    have HD := Lib.hid hD
    have hDs : D.size = 2 * d := by rw [← list_size_, hD, ind_len]
    clear hat ih hl hwh hlen hD
    obtain ⟨m, hm⟩ : ∃ m, l.length = m := ⟨_, rfl⟩
    have HM := Lib.hid hm
    rw [hm] at hl2 hc ⊢
    clear hm
    have HDs := Lib.hid hDs
    clear hDs
    go_enter Tryz.func25, Tryz.ntmps25
    go_wp2_with fail
    go_loopw [5, 6] (fun s i wr => ∃ (k : Nat) (O : ByteArray), s = .string O ∧ i = .int .i64 (k : Int) ∧ k ≤ m ∧ Hid (O.data.toList = textB Lib.itoa (l.take k) d) ∧ Below W.heap.size W wr) (fun _ i _ => m - (RowKit.intOf i).toNat)
    case atStart => exact ⟨0, ⟨#[]⟩, rfl, rfl, Nat.zero_le _, Lib.hid (by rw [List.take_zero]; rfl), Below.refl _ _⟩
    case round =>
      obtain ⟨k, O, rfl, rfl, hk, HO, hbw⟩ := hrel
      have HBw := Lib.hid hbw
      clear hbw
      by_cases hlt : k < m
      · obtain ⟨x, hx⟩ : ∃ x, l[k]? = some x := ⟨l[k]'(by rw [HM.out]; exact hlt), List.getElem?_eq_getElem _⟩
        obtain ⟨b, off, LE, LA, LB, rfl, hbB, hcell, -, hE, hA, hB'⟩ := HAt.out k x hx
        obtain ⟨y0, y1, y2, y3, y4, y5⟩ := hcell.below HBw.out (hP b hbB)
        obtain ⟨Ae, ce, rfl, -, -⟩ := hE.slice
        obtain ⟨Aa, ca, rfl, -, -⟩ := hA.slice
        obtain ⟨Ab, cb, rfl, -, -⟩ := hB'.slice
        have hws := wholeB_at HWh.out hx
        rw [wholeS_X] at hws
        simp only [Bool.and_eq_true] at hws
        have HLn : Hid (textB Lib.itoa (l.take (k + 1)) d = textB Lib.itoa (l.take k) d ++ (ind d ++ textS Lib.itoa x d ++ [10])) := Lib.hid (textB_take hx d)
        have hle : O.size + 2 * d + (textS Lib.itoa x d).length + 1 ≤ 140737488355328 := by
          have q := congrArg List.length HLn.out
          have q2 := textB_le (l := l) (k + 1) d
          have q3 := HLen.out
          simp only [List.length_append, List.length_cons, List.length_nil, ind_len] at q
          rw [← HO.out, list_size_] at q
          omega
        have HLe := Lib.hid hle
        clear hle
        obtain ⟨op, hop⟩ : ∃ q, x.op = q := ⟨_, rfl⟩
        obtain ⟨ne, hne⟩ : ∃ q, x.e.length = q := ⟨_, rfl⟩
        obtain ⟨na, hna⟩ : ∃ q, x.A.length = q := ⟨_, rfl⟩
        obtain ⟨nb, hnb⟩ : ∃ q, x.B.length = q := ⟨_, rfl⟩
        have HNe := Lib.hid hne
        have HNb := Lib.hid hnb
        have HOp := Lib.hid hop
        rw [hop] at y0 hws
        rw [hne] at y2 hws hE
        rw [hna] at y3 hws hA
        rw [hnb] at y4 hws hB'
        have HHd := Lib.hid hws.1
        have HWe := Lib.hid hws.2.1
        have HWA := Lib.hid hws.2.2.1
        have HWB := Lib.hid hws.2.2.2
        obtain ⟨W1, hW1⟩ : ∃ W1, W1 = wr.alloc (.cells #[.string op, .string x.nm, .slice Ae ne ce, .slice Aa na ca, .slice Ab nb cb, .int .i64 x.a] 114) := ⟨_, rfl⟩
        have HB1 : Hid (Below wr.heap.size wr W1) := Lib.hid (by rw [hW1]; exact (Below.refl _ _).alloc (Nat.le_refl _) _)
        have HK : Hid (Blk W1 wr.heap.size 114 #[.string op, .string x.nm, .slice Ae ne ce, .slice Aa na ca, .slice Ab nb cb, .int .i64 x.a]) := Lib.hid (by rw [hW1]; exact Blk.new wr _ _)
        have HQ : Hid (∀ w2, Below W1.heap.size W1 w2 → Below W.heap.size W w2) := Lib.hid fun w2 hb2 => thru (thru HBw.out HB1.out) hb2
        have HE := Lib.hid hE
        have HSA := Lib.hid hA
        have HSB := Lib.hid hB'
        have HW1 := Lib.hid hW1
        have D0 : Hid (Below W1.heap.size W1 W1) := Lib.hid (Below.refl _ _)
        obtain ⟨O1, hO1⟩ : ∃ q, O ++ D = q := ⟨_, rfl⟩
        have HO1 : Hid (O1.data.toList = textB Lib.itoa (l.take k) d ++ ind d) := Lib.hid (by rw [← hO1, ← HO.out, ← HD.out]; simp)
        have hO1s : O1.size = O.size + D.size := by rw [← hO1, ByteArray.size_append]
        have HO1s := Lib.hid hO1s
        have fo : Fits O D := by unfold Fits; have := HLe.out; have := HDs.out; omega
        have HOe := Lib.hid hO1
        clear hW1 hE hA hB' hx hcell hop hne hna hnb hws hO1 hO1s
        go_upto_block 1 with fail
        go_cut [5] (fun t5 wx => CutB W (textB Lib.itoa (l.take (k + 1)) d) t5 wx)
        case first =>
          go_upto_region 6 with fail
          rw [← HW1.out]
          clear y0 y1 y2 y3 y4 y5
          have z0 := HK.out.cell 0
          have z1 := HK.out.cell 1
          have z2 := HK.out.cell 2
          have z3 := HK.out.cell 3
          have z4 := HK.out.cell 4
          simp at z0 z1 z2 z3 z4
          go_upto_region 7 with fail
          rw [HOe.out]
          clear fo HOe
          have HLe2 : Hid (O1.size + (textS Lib.itoa x d).length + 1 ≤ 140737488355328) := Lib.hid (by rw [HO1s.out, HDs.out]; exact HLe.out)
          have hL := HLe2.out
          have hDs := HDs.out
          have hd2 : 2 * (d + 1) ≤ 140737488355330 := by have := HLe.out; omega
          have hhd := HHd.out
          unfold headS at hhd
          simp only [Bool.and_eq_true, beq_iff_eq] at hhd
          have hc2 := manyS_cases hhd.1
          have hcond := hhd.2.1
          clear hhd HHd HLe HLe2 HWh HLen HO HO1s
          rcases hc2 with ⟨rfl, rfl⟩ | ⟨rfl, rfl⟩ | ⟨rfl, rfl⟩ | ⟨rfl, rfl⟩ | ⟨rfl, rfl⟩ | ⟨rfl, rfl⟩ | ⟨rfl, hne, rfl⟩ | ⟨rfl, hne0, hne1⟩ | ⟨rfl, rfl⟩ | ⟨rfl, rfl⟩
          · obtain ⟨y0, hxe⟩ : ∃ y, x.e = [y] := List.length_eq_one_iff.1 HNe.out
            obtain ⟨b3, off3, L0, rfl, hbB0, hat0, hk0, -, hr0⟩ := HE.out.at_ 0 y0 (by rw [hxe]; rfl)
            obtain ⟨B0, k0, rfl, -, -⟩ := hr0.slice
            have hw0 := wholeL_at HWe.out (i := 0) (x := y0) (by rw [hxe]; rfl)
            rw [wholeE_X, Bool.and_eq_true] at hw0
            obtain ⟨T0, hT0⟩ : ∃ T : ByteArray, T = ⟨(tE y0).toArray⟩ := ⟨_, rfl⟩
            have hTd0 : T0.data.toList = tE y0 := by rw [hT0]
            have hp0 : part0 (tL x.e) 0 = T0.data.toList := by rw [hTd0]; exact part0_some (by rw [hxe]; rfl)
            have HTX : Hid (textS Lib.itoa x d = stmtF ⟨#[115, 101, 116]⟩ x.nm (tL x.e) (textB Lib.itoa x.A (d + 1)) (textB Lib.itoa x.B (d + 1)) nb d) := Lib.hid (by rw [textS_X, HOp.out, HNb.out])
            have hx2 := HTX.out
            rw [stm_set] at hx2
            rw [hp0] at hx2
            have hsz := congrArg List.length hx2
            simp only [List.length_append, List.length_cons, List.length_nil, list_size_] at hsz
            have fz0 : Fits (O1) x.nm := by unfold Fits; have c2 : (⟨#[32, 61, 32]⟩ : ByteArray).size = 3 := rfl; have c4 : (⟨#[59, 10]⟩ : ByteArray).size = 2 := rfl; omega
            have fz1 : Fits (O1 ++ x.nm) (⟨#[32, 61, 32]⟩ : ByteArray) := by unfold Fits; simp only [ByteArray.size_append]; have c2 : (⟨#[32, 61, 32]⟩ : ByteArray).size = 3 := rfl; have c4 : (⟨#[59, 10]⟩ : ByteArray).size = 2 := rfl; omega
            have fz2 : Fits (O1 ++ x.nm ++ (⟨#[32, 61, 32]⟩ : ByteArray)) T0 := by unfold Fits; simp only [ByteArray.size_append]; have c2 : (⟨#[32, 61, 32]⟩ : ByteArray).size = 3 := rfl; have c4 : (⟨#[59, 10]⟩ : ByteArray).size = 2 := rfl; omega
            have fz3 : Fits (O1 ++ x.nm ++ (⟨#[32, 61, 32]⟩ : ByteArray) ++ T0) (⟨#[59, 10]⟩ : ByteArray) := by unfold Fits; simp only [ByteArray.size_append]; have c2 : (⟨#[32, 61, 32]⟩ : ByteArray).size = 3 := rfl; have c4 : (⟨#[59, 10]⟩ : ByteArray).size = 2 := rfl; omega
            have HT0 : Hid (∀ w1, Below W1.heap.size W1 w1 → Calls Tryz.prog 56 #[exV y0.op y0.nm y0.n (.slice B0 y0.l.length k0) y0.a] w1 fun e w' => e = .returned (.string T0) ∧ Below w1.heap.size w1 w') := Lib.hid fun w1 hb => by
              have q := HQ.out _ hb
              have r := (rtext_any (n - 1)).1 P y0.l _ y0.op y0.nm y0.n y0.a w1 (hr0.below q hP) (lo_up hP q.size) hk0 hw0.1 hw0.2 (by rw [← tE_form, ← hTd0, list_size_]; omega)
              rw [← tE_form, ← hT0] at r
              exact r
            have HX2 := Lib.hid hx2
            have HC : Hid (∀ w1, Below W1.heap.size W1 w1 → (w1.cell? ⟨wr.heap.size, 1, none⟩ = some (.string x.nm) ∧ w1.cell? ⟨wr.heap.size, 2, none⟩ = some (.slice (some ⟨b3, off3, none⟩) 1 ce)) ∧ (w1.cell? ⟨b3, off3, none⟩ = some (.string y0.op) ∧ w1.cell? ⟨b3, off3 + 1, none⟩ = some (.string y0.nm) ∧ w1.cell? ⟨b3, off3 + 2, none⟩ = some (.int .i64 y0.n) ∧ w1.cell? ⟨b3, off3 + 3, none⟩ = some (.slice B0 y0.l.length k0) ∧ w1.cell? ⟨b3, off3 + 4, none⟩ = some (.int .i64 y0.a))) := Lib.hid fun w1 hb => ⟨⟨(HK.out.below hb HK.out.lt).cell 1, (HK.out.below hb HK.out.lt).cell 2⟩, (hat0.below (HQ.out _ hb) (hP b3 hbB0))⟩
            have BD : Hid (Below W1.heap.size W1 W1.drew) := Lib.hid (Below.refl _ _).drew
            have K0 := Lib.hid (HC.out _ BD.out)
            clear hx2 hsz hT0 hTd0 hp0 hw0 hr0 hat0 hk0
            try clear hxe
            go_wp2_with fail
            go_region_held3 (fun w1 => (w1.cell? ⟨wr.heap.size, 1, none⟩ = some (.string x.nm) ∧ w1.cell? ⟨wr.heap.size, 2, none⟩ = some (.slice (some ⟨b3, off3, none⟩) 1 ce)) ∧ (w1.cell? ⟨b3, off3, none⟩ = some (.string y0.op) ∧ w1.cell? ⟨b3, off3 + 1, none⟩ = some (.string y0.nm) ∧ w1.cell? ⟨b3, off3 + 2, none⟩ = some (.int .i64 y0.n) ∧ w1.cell? ⟨b3, off3 + 3, none⟩ = some (.slice B0 y0.l.length k0) ∧ w1.cell? ⟨b3, off3 + 4, none⟩ = some (.int .i64 y0.a)))
              (first | (with_reducible exact K0.out) | (with_reducible exact KB1.out) | (with_reducible exact KB2.out) | (with_reducible exact KB3.out))
              (first
              | (go_at_call 56; have HX := HT0.out _ BD.out; (with_reducible refine HX.mono ?_); clear HX; rintro e w_B1 ⟨rfl, hb⟩; have B1 := Lib.hid (thru BD.out hb); have KB1 := Lib.hid (HC.out _ B1.out); clear hb))
            all_goals go_wp2_with fail
            all_goals (
              go_meet
              exact ⟨_, rfl, Lib.hid (by rw [HLn.out, HX2.out]; simp [HO1.out]), HQ.out _ B1.out⟩
            )
          · obtain ⟨y0, hxe⟩ : ∃ y, x.e = [y] := List.length_eq_one_iff.1 HNe.out
            obtain ⟨b3, off3, L0, rfl, hbB0, hat0, hk0, -, hr0⟩ := HE.out.at_ 0 y0 (by rw [hxe]; rfl)
            obtain ⟨B0, k0, rfl, -, -⟩ := hr0.slice
            have hw0 := wholeL_at HWe.out (i := 0) (x := y0) (by rw [hxe]; rfl)
            rw [wholeE_X, Bool.and_eq_true] at hw0
            obtain ⟨T0, hT0⟩ : ∃ T : ByteArray, T = ⟨(tE y0).toArray⟩ := ⟨_, rfl⟩
            have hTd0 : T0.data.toList = tE y0 := by rw [hT0]
            have hp0 : part0 (tL x.e) 0 = T0.data.toList := by rw [hTd0]; exact part0_some (by rw [hxe]; rfl)
            have HTX : Hid (textS Lib.itoa x d = stmtF ⟨#[97, 115, 115, 101, 114, 116]⟩ x.nm (tL x.e) (textB Lib.itoa x.A (d + 1)) (textB Lib.itoa x.B (d + 1)) nb d) := Lib.hid (by rw [textS_X, HOp.out, HNb.out])
            have hx2 := HTX.out
            rw [stm_assert] at hx2
            rw [hp0] at hx2
            have hsz := congrArg List.length hx2
            simp only [List.length_append, List.length_cons, List.length_nil, list_size_] at hsz
            have fz0 : Fits (O1) (⟨#[97, 115, 115, 101, 114, 116]⟩ : ByteArray) := by unfold Fits; have c1 : (⟨#[97, 115, 115, 101, 114, 116]⟩ : ByteArray).size = 6 := rfl; have c2 : (⟨#[32]⟩ : ByteArray).size = 1 := rfl; have c4 : (⟨#[59, 10]⟩ : ByteArray).size = 2 := rfl; omega
            have fz1 : Fits (O1 ++ (⟨#[97, 115, 115, 101, 114, 116]⟩ : ByteArray)) (⟨#[32]⟩ : ByteArray) := by unfold Fits; simp only [ByteArray.size_append]; have c1 : (⟨#[97, 115, 115, 101, 114, 116]⟩ : ByteArray).size = 6 := rfl; have c2 : (⟨#[32]⟩ : ByteArray).size = 1 := rfl; have c4 : (⟨#[59, 10]⟩ : ByteArray).size = 2 := rfl; omega
            have fz2 : Fits (O1 ++ (⟨#[97, 115, 115, 101, 114, 116]⟩ : ByteArray) ++ (⟨#[32]⟩ : ByteArray)) T0 := by unfold Fits; simp only [ByteArray.size_append]; have c1 : (⟨#[97, 115, 115, 101, 114, 116]⟩ : ByteArray).size = 6 := rfl; have c2 : (⟨#[32]⟩ : ByteArray).size = 1 := rfl; have c4 : (⟨#[59, 10]⟩ : ByteArray).size = 2 := rfl; omega
            have fz3 : Fits (O1 ++ (⟨#[97, 115, 115, 101, 114, 116]⟩ : ByteArray) ++ (⟨#[32]⟩ : ByteArray) ++ T0) (⟨#[59, 10]⟩ : ByteArray) := by unfold Fits; simp only [ByteArray.size_append]; have c1 : (⟨#[97, 115, 115, 101, 114, 116]⟩ : ByteArray).size = 6 := rfl; have c2 : (⟨#[32]⟩ : ByteArray).size = 1 := rfl; have c4 : (⟨#[59, 10]⟩ : ByteArray).size = 2 := rfl; omega
            have HT0 : Hid (∀ w1, Below W1.heap.size W1 w1 → Calls Tryz.prog 56 #[exV y0.op y0.nm y0.n (.slice B0 y0.l.length k0) y0.a] w1 fun e w' => e = .returned (.string T0) ∧ Below w1.heap.size w1 w') := Lib.hid fun w1 hb => by
              have q := HQ.out _ hb
              have r := (rtext_any (n - 1)).1 P y0.l _ y0.op y0.nm y0.n y0.a w1 (hr0.below q hP) (lo_up hP q.size) hk0 hw0.1 hw0.2 (by rw [← tE_form, ← hTd0, list_size_]; omega)
              rw [← tE_form, ← hT0] at r
              exact r
            have HX2 := Lib.hid hx2
            have HC : Hid (∀ w1, Below W1.heap.size W1 w1 → (w1.cell? ⟨wr.heap.size, 0, none⟩ = some (.string ⟨#[97, 115, 115, 101, 114, 116]⟩) ∧ w1.cell? ⟨wr.heap.size, 2, none⟩ = some (.slice (some ⟨b3, off3, none⟩) 1 ce)) ∧ (w1.cell? ⟨b3, off3, none⟩ = some (.string y0.op) ∧ w1.cell? ⟨b3, off3 + 1, none⟩ = some (.string y0.nm) ∧ w1.cell? ⟨b3, off3 + 2, none⟩ = some (.int .i64 y0.n) ∧ w1.cell? ⟨b3, off3 + 3, none⟩ = some (.slice B0 y0.l.length k0) ∧ w1.cell? ⟨b3, off3 + 4, none⟩ = some (.int .i64 y0.a))) := Lib.hid fun w1 hb => ⟨⟨(HK.out.below hb HK.out.lt).cell 0, (HK.out.below hb HK.out.lt).cell 2⟩, (hat0.below (HQ.out _ hb) (hP b3 hbB0))⟩
            have BD : Hid (Below W1.heap.size W1 W1.drew) := Lib.hid (Below.refl _ _).drew
            have K0 := Lib.hid (HC.out _ BD.out)
            clear hx2 hsz hT0 hTd0 hp0 hw0 hr0 hat0 hk0
            try clear hxe
            go_wp2_with fail
            go_region_held3 (fun w1 => (w1.cell? ⟨wr.heap.size, 0, none⟩ = some (.string ⟨#[97, 115, 115, 101, 114, 116]⟩) ∧ w1.cell? ⟨wr.heap.size, 2, none⟩ = some (.slice (some ⟨b3, off3, none⟩) 1 ce)) ∧ (w1.cell? ⟨b3, off3, none⟩ = some (.string y0.op) ∧ w1.cell? ⟨b3, off3 + 1, none⟩ = some (.string y0.nm) ∧ w1.cell? ⟨b3, off3 + 2, none⟩ = some (.int .i64 y0.n) ∧ w1.cell? ⟨b3, off3 + 3, none⟩ = some (.slice B0 y0.l.length k0) ∧ w1.cell? ⟨b3, off3 + 4, none⟩ = some (.int .i64 y0.a)))
              (first | (with_reducible exact K0.out) | (with_reducible exact KB1.out) | (with_reducible exact KB2.out) | (with_reducible exact KB3.out))
              (first
              | (go_at_call 56; have HX := HT0.out _ BD.out; (with_reducible refine HX.mono ?_); clear HX; rintro e w_B1 ⟨rfl, hb⟩; have B1 := Lib.hid (thru BD.out hb); have KB1 := Lib.hid (HC.out _ B1.out); clear hb))
            all_goals go_wp2_with fail
            all_goals (
              go_meet
              exact ⟨_, rfl, Lib.hid (by rw [HLn.out, HX2.out]; simp [HO1.out]), HQ.out _ B1.out⟩
            )
          · obtain ⟨y0, hxe⟩ : ∃ y, x.e = [y] := List.length_eq_one_iff.1 HNe.out
            obtain ⟨b3, off3, L0, rfl, hbB0, hat0, hk0, -, hr0⟩ := HE.out.at_ 0 y0 (by rw [hxe]; rfl)
            obtain ⟨B0, k0, rfl, -, -⟩ := hr0.slice
            have hw0 := wholeL_at HWe.out (i := 0) (x := y0) (by rw [hxe]; rfl)
            rw [wholeE_X, Bool.and_eq_true] at hw0
            obtain ⟨T0, hT0⟩ : ∃ T : ByteArray, T = ⟨(tE y0).toArray⟩ := ⟨_, rfl⟩
            have hTd0 : T0.data.toList = tE y0 := by rw [hT0]
            have hp0 : part0 (tL x.e) 0 = T0.data.toList := by rw [hTd0]; exact part0_some (by rw [hxe]; rfl)
            have HTX : Hid (textS Lib.itoa x d = stmtF ⟨#[97, 115, 115, 117, 109, 101]⟩ x.nm (tL x.e) (textB Lib.itoa x.A (d + 1)) (textB Lib.itoa x.B (d + 1)) nb d) := Lib.hid (by rw [textS_X, HOp.out, HNb.out])
            have hx2 := HTX.out
            rw [stm_assume] at hx2
            rw [hp0] at hx2
            have hsz := congrArg List.length hx2
            simp only [List.length_append, List.length_cons, List.length_nil, list_size_] at hsz
            have fz0 : Fits (O1) (⟨#[97, 115, 115, 117, 109, 101]⟩ : ByteArray) := by unfold Fits; have c1 : (⟨#[97, 115, 115, 117, 109, 101]⟩ : ByteArray).size = 6 := rfl; have c2 : (⟨#[32]⟩ : ByteArray).size = 1 := rfl; have c4 : (⟨#[59, 10]⟩ : ByteArray).size = 2 := rfl; omega
            have fz1 : Fits (O1 ++ (⟨#[97, 115, 115, 117, 109, 101]⟩ : ByteArray)) (⟨#[32]⟩ : ByteArray) := by unfold Fits; simp only [ByteArray.size_append]; have c1 : (⟨#[97, 115, 115, 117, 109, 101]⟩ : ByteArray).size = 6 := rfl; have c2 : (⟨#[32]⟩ : ByteArray).size = 1 := rfl; have c4 : (⟨#[59, 10]⟩ : ByteArray).size = 2 := rfl; omega
            have fz2 : Fits (O1 ++ (⟨#[97, 115, 115, 117, 109, 101]⟩ : ByteArray) ++ (⟨#[32]⟩ : ByteArray)) T0 := by unfold Fits; simp only [ByteArray.size_append]; have c1 : (⟨#[97, 115, 115, 117, 109, 101]⟩ : ByteArray).size = 6 := rfl; have c2 : (⟨#[32]⟩ : ByteArray).size = 1 := rfl; have c4 : (⟨#[59, 10]⟩ : ByteArray).size = 2 := rfl; omega
            have fz3 : Fits (O1 ++ (⟨#[97, 115, 115, 117, 109, 101]⟩ : ByteArray) ++ (⟨#[32]⟩ : ByteArray) ++ T0) (⟨#[59, 10]⟩ : ByteArray) := by unfold Fits; simp only [ByteArray.size_append]; have c1 : (⟨#[97, 115, 115, 117, 109, 101]⟩ : ByteArray).size = 6 := rfl; have c2 : (⟨#[32]⟩ : ByteArray).size = 1 := rfl; have c4 : (⟨#[59, 10]⟩ : ByteArray).size = 2 := rfl; omega
            have HT0 : Hid (∀ w1, Below W1.heap.size W1 w1 → Calls Tryz.prog 56 #[exV y0.op y0.nm y0.n (.slice B0 y0.l.length k0) y0.a] w1 fun e w' => e = .returned (.string T0) ∧ Below w1.heap.size w1 w') := Lib.hid fun w1 hb => by
              have q := HQ.out _ hb
              have r := (rtext_any (n - 1)).1 P y0.l _ y0.op y0.nm y0.n y0.a w1 (hr0.below q hP) (lo_up hP q.size) hk0 hw0.1 hw0.2 (by rw [← tE_form, ← hTd0, list_size_]; omega)
              rw [← tE_form, ← hT0] at r
              exact r
            have HX2 := Lib.hid hx2
            have HC : Hid (∀ w1, Below W1.heap.size W1 w1 → (w1.cell? ⟨wr.heap.size, 0, none⟩ = some (.string ⟨#[97, 115, 115, 117, 109, 101]⟩) ∧ w1.cell? ⟨wr.heap.size, 2, none⟩ = some (.slice (some ⟨b3, off3, none⟩) 1 ce)) ∧ (w1.cell? ⟨b3, off3, none⟩ = some (.string y0.op) ∧ w1.cell? ⟨b3, off3 + 1, none⟩ = some (.string y0.nm) ∧ w1.cell? ⟨b3, off3 + 2, none⟩ = some (.int .i64 y0.n) ∧ w1.cell? ⟨b3, off3 + 3, none⟩ = some (.slice B0 y0.l.length k0) ∧ w1.cell? ⟨b3, off3 + 4, none⟩ = some (.int .i64 y0.a))) := Lib.hid fun w1 hb => ⟨⟨(HK.out.below hb HK.out.lt).cell 0, (HK.out.below hb HK.out.lt).cell 2⟩, (hat0.below (HQ.out _ hb) (hP b3 hbB0))⟩
            have BD : Hid (Below W1.heap.size W1 W1.drew) := Lib.hid (Below.refl _ _).drew
            have K0 := Lib.hid (HC.out _ BD.out)
            clear hx2 hsz hT0 hTd0 hp0 hw0 hr0 hat0 hk0
            try clear hxe
            go_wp2_with fail
            go_region_held3 (fun w1 => (w1.cell? ⟨wr.heap.size, 0, none⟩ = some (.string ⟨#[97, 115, 115, 117, 109, 101]⟩) ∧ w1.cell? ⟨wr.heap.size, 2, none⟩ = some (.slice (some ⟨b3, off3, none⟩) 1 ce)) ∧ (w1.cell? ⟨b3, off3, none⟩ = some (.string y0.op) ∧ w1.cell? ⟨b3, off3 + 1, none⟩ = some (.string y0.nm) ∧ w1.cell? ⟨b3, off3 + 2, none⟩ = some (.int .i64 y0.n) ∧ w1.cell? ⟨b3, off3 + 3, none⟩ = some (.slice B0 y0.l.length k0) ∧ w1.cell? ⟨b3, off3 + 4, none⟩ = some (.int .i64 y0.a)))
              (first | (with_reducible exact K0.out) | (with_reducible exact KB1.out) | (with_reducible exact KB2.out) | (with_reducible exact KB3.out))
              (first
              | (go_at_call 56; have HX := HT0.out _ BD.out; (with_reducible refine HX.mono ?_); clear HX; rintro e w_B1 ⟨rfl, hb⟩; have B1 := Lib.hid (thru BD.out hb); have KB1 := Lib.hid (HC.out _ B1.out); clear hb))
            all_goals go_wp2_with fail
            all_goals (
              go_meet
              exact ⟨_, rfl, Lib.hid (by rw [HLn.out, HX2.out]; simp [HO1.out]), HQ.out _ B1.out⟩
            )
          · obtain ⟨y0, hxe⟩ : ∃ y, x.e = [y] := List.length_eq_one_iff.1 HNe.out
            by_cases hb0 : 0 < nb
            · obtain ⟨b3, off3, L0, rfl, hbB0, hat0, hk0, -, hr0⟩ := HE.out.at_ 0 y0 (by rw [hxe]; rfl)
              obtain ⟨B0, k0, rfl, -, -⟩ := hr0.slice
              have hw0 := wholeL_at HWe.out (i := 0) (x := y0) (by rw [hxe]; rfl)
              rw [wholeE_X, Bool.and_eq_true] at hw0
              obtain ⟨T0, hT0⟩ : ∃ T : ByteArray, T = ⟨(tE y0).toArray⟩ := ⟨_, rfl⟩
              have hTd0 : T0.data.toList = tE y0 := by rw [hT0]
              have hp0 : part0 (tL x.e) 0 = T0.data.toList := by rw [hTd0]; exact part0_some (by rw [hxe]; rfl)
              have HTX : Hid (textS Lib.itoa x d = stmtF ⟨#[105, 102]⟩ x.nm (tL x.e) (textB Lib.itoa x.A (d + 1)) (textB Lib.itoa x.B (d + 1)) nb d) := Lib.hid (by rw [textS_X, HOp.out, HNb.out])
              have hx2 := HTX.out
              rw [stm_if1 _ _ _ _ _ _ hb0] at hx2
              rw [hp0] at hx2
              obtain ⟨RA, hRA⟩ : ∃ T : ByteArray, T = ⟨(textB Lib.itoa x.A (d + 1)).toArray⟩ := ⟨_, rfl⟩
              have hRAd : RA.data.toList = textB Lib.itoa x.A (d + 1) := by rw [hRA]
              obtain ⟨RB, hRB⟩ : ∃ T : ByteArray, T = ⟨(textB Lib.itoa x.B (d + 1)).toArray⟩ := ⟨_, rfl⟩
              have hRBd : RB.data.toList = textB Lib.itoa x.B (d + 1) := by rw [hRB]
              rw [← hRAd, ← hRBd] at hx2
              unfold blockF at hx2
              have hsz := congrArg List.length hx2
              simp only [List.length_append, List.length_cons, List.length_nil, list_size_, ind_len] at hsz
              have fz0 : Fits (O1) (⟨#[105, 102, 32]⟩ : ByteArray) := by unfold Fits; have c1 : (⟨#[105, 102, 32]⟩ : ByteArray).size = 3 := rfl; have c3 : (⟨#[32, 123, 10]⟩ : ByteArray).size = 3 := rfl; have c6 : (⟨#[125, 32, 101, 108, 115, 101, 32, 123, 10]⟩ : ByteArray).size = 9 := rfl; have c9 : (⟨#[125, 10]⟩ : ByteArray).size = 2 := rfl; omega
              have fz1 : Fits (O1 ++ (⟨#[105, 102, 32]⟩ : ByteArray)) T0 := by unfold Fits; simp only [ByteArray.size_append]; have c1 : (⟨#[105, 102, 32]⟩ : ByteArray).size = 3 := rfl; have c3 : (⟨#[32, 123, 10]⟩ : ByteArray).size = 3 := rfl; have c6 : (⟨#[125, 32, 101, 108, 115, 101, 32, 123, 10]⟩ : ByteArray).size = 9 := rfl; have c9 : (⟨#[125, 10]⟩ : ByteArray).size = 2 := rfl; omega
              have fz2 : Fits (O1 ++ (⟨#[105, 102, 32]⟩ : ByteArray) ++ T0) (⟨#[32, 123, 10]⟩ : ByteArray) := by unfold Fits; simp only [ByteArray.size_append]; have c1 : (⟨#[105, 102, 32]⟩ : ByteArray).size = 3 := rfl; have c3 : (⟨#[32, 123, 10]⟩ : ByteArray).size = 3 := rfl; have c6 : (⟨#[125, 32, 101, 108, 115, 101, 32, 123, 10]⟩ : ByteArray).size = 9 := rfl; have c9 : (⟨#[125, 10]⟩ : ByteArray).size = 2 := rfl; omega
              have fz3 : Fits (O1 ++ (⟨#[105, 102, 32]⟩ : ByteArray) ++ T0 ++ (⟨#[32, 123, 10]⟩ : ByteArray)) RA := by unfold Fits; simp only [ByteArray.size_append]; have c1 : (⟨#[105, 102, 32]⟩ : ByteArray).size = 3 := rfl; have c3 : (⟨#[32, 123, 10]⟩ : ByteArray).size = 3 := rfl; have c6 : (⟨#[125, 32, 101, 108, 115, 101, 32, 123, 10]⟩ : ByteArray).size = 9 := rfl; have c9 : (⟨#[125, 10]⟩ : ByteArray).size = 2 := rfl; omega
              have fz4 : Fits (O1 ++ (⟨#[105, 102, 32]⟩ : ByteArray) ++ T0 ++ (⟨#[32, 123, 10]⟩ : ByteArray) ++ RA) D := by unfold Fits; simp only [ByteArray.size_append]; have c1 : (⟨#[105, 102, 32]⟩ : ByteArray).size = 3 := rfl; have c3 : (⟨#[32, 123, 10]⟩ : ByteArray).size = 3 := rfl; have c6 : (⟨#[125, 32, 101, 108, 115, 101, 32, 123, 10]⟩ : ByteArray).size = 9 := rfl; have c9 : (⟨#[125, 10]⟩ : ByteArray).size = 2 := rfl; omega
              have fz5 : Fits (O1 ++ (⟨#[105, 102, 32]⟩ : ByteArray) ++ T0 ++ (⟨#[32, 123, 10]⟩ : ByteArray) ++ RA ++ D) (⟨#[125, 32, 101, 108, 115, 101, 32, 123, 10]⟩ : ByteArray) := by unfold Fits; simp only [ByteArray.size_append]; have c1 : (⟨#[105, 102, 32]⟩ : ByteArray).size = 3 := rfl; have c3 : (⟨#[32, 123, 10]⟩ : ByteArray).size = 3 := rfl; have c6 : (⟨#[125, 32, 101, 108, 115, 101, 32, 123, 10]⟩ : ByteArray).size = 9 := rfl; have c9 : (⟨#[125, 10]⟩ : ByteArray).size = 2 := rfl; omega
              have fz6 : Fits (O1 ++ (⟨#[105, 102, 32]⟩ : ByteArray) ++ T0 ++ (⟨#[32, 123, 10]⟩ : ByteArray) ++ RA ++ D ++ (⟨#[125, 32, 101, 108, 115, 101, 32, 123, 10]⟩ : ByteArray)) RB := by unfold Fits; simp only [ByteArray.size_append]; have c1 : (⟨#[105, 102, 32]⟩ : ByteArray).size = 3 := rfl; have c3 : (⟨#[32, 123, 10]⟩ : ByteArray).size = 3 := rfl; have c6 : (⟨#[125, 32, 101, 108, 115, 101, 32, 123, 10]⟩ : ByteArray).size = 9 := rfl; have c9 : (⟨#[125, 10]⟩ : ByteArray).size = 2 := rfl; omega
              have fz7 : Fits (O1 ++ (⟨#[105, 102, 32]⟩ : ByteArray) ++ T0 ++ (⟨#[32, 123, 10]⟩ : ByteArray) ++ RA ++ D ++ (⟨#[125, 32, 101, 108, 115, 101, 32, 123, 10]⟩ : ByteArray) ++ RB) D := by unfold Fits; simp only [ByteArray.size_append]; have c1 : (⟨#[105, 102, 32]⟩ : ByteArray).size = 3 := rfl; have c3 : (⟨#[32, 123, 10]⟩ : ByteArray).size = 3 := rfl; have c6 : (⟨#[125, 32, 101, 108, 115, 101, 32, 123, 10]⟩ : ByteArray).size = 9 := rfl; have c9 : (⟨#[125, 10]⟩ : ByteArray).size = 2 := rfl; omega
              have fz8 : Fits (O1 ++ (⟨#[105, 102, 32]⟩ : ByteArray) ++ T0 ++ (⟨#[32, 123, 10]⟩ : ByteArray) ++ RA ++ D ++ (⟨#[125, 32, 101, 108, 115, 101, 32, 123, 10]⟩ : ByteArray) ++ RB ++ D) (⟨#[125, 10]⟩ : ByteArray) := by unfold Fits; simp only [ByteArray.size_append]; have c1 : (⟨#[105, 102, 32]⟩ : ByteArray).size = 3 := rfl; have c3 : (⟨#[32, 123, 10]⟩ : ByteArray).size = 3 := rfl; have c6 : (⟨#[125, 32, 101, 108, 115, 101, 32, 123, 10]⟩ : ByteArray).size = 9 := rfl; have c9 : (⟨#[125, 10]⟩ : ByteArray).size = 2 := rfl; omega
              have fd : Fits D (⟨#[32, 32]⟩ : ByteArray) := by unfold Fits; have c0 : (⟨#[32, 32]⟩ : ByteArray).size = 2 := rfl; omega
              have HT0 : Hid (∀ w1, Below W1.heap.size W1 w1 → Calls Tryz.prog 56 #[exV y0.op y0.nm y0.n (.slice B0 y0.l.length k0) y0.a] w1 fun e w' => e = .returned (.string T0) ∧ Below w1.heap.size w1 w') := Lib.hid fun w1 hb => by
                have q := HQ.out _ hb
                have r := (rtext_any (n - 1)).1 P y0.l _ y0.op y0.nm y0.n y0.a w1 (hr0.below q hP) (lo_up hP q.size) hk0 hw0.1 hw0.2 (by rw [← tE_form, ← hTd0, list_size_]; omega)
                rw [← tE_form, ← hT0] at r
                exact r
              have HBA : Hid (∀ w1, Below W1.heap.size W1 w1 → Calls Tryz.prog 25 #[.slice Aa na ca, .string (D ++ ⟨#[32, 32]⟩)] w1 fun e w' => e = .returned (.string RA) ∧ Below w1.heap.size w1 w') := Lib.hid fun w1 hb => by
                have q := HQ.out _ hb
                have r := HIH.out P x.A _ (d + 1) (D ++ ⟨#[32, 32]⟩) w1 (HSA.out.below q hP) (lo_up hP q.size) HWA.out (deeper HD.out) (by omega) (by rw [← hRAd, list_size_]; omega)
                rw [← hRA] at r
                exact r
              have HBB : Hid (∀ w1, Below W1.heap.size W1 w1 → Calls Tryz.prog 25 #[.slice Ab nb cb, .string (D ++ ⟨#[32, 32]⟩)] w1 fun e w' => e = .returned (.string RB) ∧ Below w1.heap.size w1 w') := Lib.hid fun w1 hb => by
                have q := HQ.out _ hb
                have r := HIH.out P x.B _ (d + 1) (D ++ ⟨#[32, 32]⟩) w1 (HSB.out.below q hP) (lo_up hP q.size) HWB.out (deeper HD.out) (by omega) (by rw [← hRBd, list_size_]; omega)
                rw [← hRB] at r
                exact r
              have HX2 := Lib.hid hx2
              have HC : Hid (∀ w1, Below W1.heap.size W1 w1 → (w1.cell? ⟨wr.heap.size, 2, none⟩ = some (.slice (some ⟨b3, off3, none⟩) 1 ce) ∧ w1.cell? ⟨wr.heap.size, 3, none⟩ = some (.slice Aa na ca)) ∧ (w1.cell? ⟨b3, off3, none⟩ = some (.string y0.op) ∧ w1.cell? ⟨b3, off3 + 1, none⟩ = some (.string y0.nm) ∧ w1.cell? ⟨b3, off3 + 2, none⟩ = some (.int .i64 y0.n) ∧ w1.cell? ⟨b3, off3 + 3, none⟩ = some (.slice B0 y0.l.length k0) ∧ w1.cell? ⟨b3, off3 + 4, none⟩ = some (.int .i64 y0.a))) := Lib.hid fun w1 hb => ⟨⟨(HK.out.below hb HK.out.lt).cell 2, (HK.out.below hb HK.out.lt).cell 3⟩, (hat0.below (HQ.out _ hb) (hP b3 hbB0))⟩
              have HC4 : Hid (∀ w1, Below W1.heap.size W1 w1 → w1.cell? ⟨wr.heap.size, 4, none⟩ = some (.slice Ab nb cb)) := Lib.hid fun w1 hb => (HK.out.below hb HK.out.lt).cell 4
              have BD : Hid (Below W1.heap.size W1 W1.drew) := Lib.hid (Below.refl _ _).drew
              have K0 := Lib.hid (HC.out _ BD.out)
              clear hx2 hsz hT0 hTd0 hp0 hw0 hr0 hat0 hk0 hRA hRAd hRB hRBd
              try clear hxe
              go_wp2_with fail
              go_region_held3 (fun w1 => (w1.cell? ⟨wr.heap.size, 2, none⟩ = some (.slice (some ⟨b3, off3, none⟩) 1 ce) ∧ w1.cell? ⟨wr.heap.size, 3, none⟩ = some (.slice Aa na ca)) ∧ (w1.cell? ⟨b3, off3, none⟩ = some (.string y0.op) ∧ w1.cell? ⟨b3, off3 + 1, none⟩ = some (.string y0.nm) ∧ w1.cell? ⟨b3, off3 + 2, none⟩ = some (.int .i64 y0.n) ∧ w1.cell? ⟨b3, off3 + 3, none⟩ = some (.slice B0 y0.l.length k0) ∧ w1.cell? ⟨b3, off3 + 4, none⟩ = some (.int .i64 y0.a)))
                (first | (with_reducible exact K0.out) | (with_reducible exact KB1.out) | (with_reducible exact KB2.out) | (with_reducible exact KB3.out))
                (first
                | (go_at_call 56; have HX := HT0.out _ BD.out; (with_reducible refine HX.mono ?_); clear HX; rintro e w_B1 ⟨rfl, hb⟩; have B1 := Lib.hid (thru BD.out hb); have KB1 := Lib.hid (HC.out _ B1.out); clear hb)
                | (go_at_call 25; have HX := HBA.out _ B1.out; (with_reducible refine HX.mono ?_); clear HX; rintro e w_B2 ⟨rfl, hb⟩; have B2 := Lib.hid (thru B1.out hb); have KB2 := Lib.hid (HC.out _ B2.out); have z9 := HC4.out _ B2.out; clear hb))
              all_goals go_wp2_with (go_at_call 25; have HX := HBB.out _ B2.out; (with_reducible refine HX.mono ?_); clear HX; rintro e w_B3 ⟨rfl, hb⟩; have B3 := Lib.hid (thru B2.out hb); have KB3 := Lib.hid (HC.out _ B3.out); clear hb)
              all_goals (
                go_meet
                exact ⟨_, rfl, Lib.hid (by rw [HLn.out, HX2.out]; simp [HO1.out, HD.out]), HQ.out _ B3.out⟩
              )
            · obtain rfl : nb = 0 := by omega
              obtain ⟨b3, off3, L0, rfl, hbB0, hat0, hk0, -, hr0⟩ := HE.out.at_ 0 y0 (by rw [hxe]; rfl)
              obtain ⟨B0, k0, rfl, -, -⟩ := hr0.slice
              have hw0 := wholeL_at HWe.out (i := 0) (x := y0) (by rw [hxe]; rfl)
              rw [wholeE_X, Bool.and_eq_true] at hw0
              obtain ⟨T0, hT0⟩ : ∃ T : ByteArray, T = ⟨(tE y0).toArray⟩ := ⟨_, rfl⟩
              have hTd0 : T0.data.toList = tE y0 := by rw [hT0]
              have hp0 : part0 (tL x.e) 0 = T0.data.toList := by rw [hTd0]; exact part0_some (by rw [hxe]; rfl)
              have HTX : Hid (textS Lib.itoa x d = stmtF ⟨#[105, 102]⟩ x.nm (tL x.e) (textB Lib.itoa x.A (d + 1)) (textB Lib.itoa x.B (d + 1)) 0 d) := Lib.hid (by rw [textS_X, HOp.out, HNb.out])
              have hx2 := HTX.out
              rw [stm_if0] at hx2
              rw [hp0] at hx2
              obtain ⟨RA, hRA⟩ : ∃ T : ByteArray, T = ⟨(textB Lib.itoa x.A (d + 1)).toArray⟩ := ⟨_, rfl⟩
              have hRAd : RA.data.toList = textB Lib.itoa x.A (d + 1) := by rw [hRA]
              rw [← hRAd] at hx2
              unfold blockF at hx2
              have hsz := congrArg List.length hx2
              simp only [List.length_append, List.length_cons, List.length_nil, list_size_, ind_len] at hsz
              have fz0 : Fits (O1) (⟨#[105, 102, 32]⟩ : ByteArray) := by unfold Fits; have c1 : (⟨#[105, 102, 32]⟩ : ByteArray).size = 3 := rfl; have c3 : (⟨#[32, 123, 10]⟩ : ByteArray).size = 3 := rfl; have c6 : (⟨#[125, 10]⟩ : ByteArray).size = 2 := rfl; omega
              have fz1 : Fits (O1 ++ (⟨#[105, 102, 32]⟩ : ByteArray)) T0 := by unfold Fits; simp only [ByteArray.size_append]; have c1 : (⟨#[105, 102, 32]⟩ : ByteArray).size = 3 := rfl; have c3 : (⟨#[32, 123, 10]⟩ : ByteArray).size = 3 := rfl; have c6 : (⟨#[125, 10]⟩ : ByteArray).size = 2 := rfl; omega
              have fz2 : Fits (O1 ++ (⟨#[105, 102, 32]⟩ : ByteArray) ++ T0) (⟨#[32, 123, 10]⟩ : ByteArray) := by unfold Fits; simp only [ByteArray.size_append]; have c1 : (⟨#[105, 102, 32]⟩ : ByteArray).size = 3 := rfl; have c3 : (⟨#[32, 123, 10]⟩ : ByteArray).size = 3 := rfl; have c6 : (⟨#[125, 10]⟩ : ByteArray).size = 2 := rfl; omega
              have fz3 : Fits (O1 ++ (⟨#[105, 102, 32]⟩ : ByteArray) ++ T0 ++ (⟨#[32, 123, 10]⟩ : ByteArray)) RA := by unfold Fits; simp only [ByteArray.size_append]; have c1 : (⟨#[105, 102, 32]⟩ : ByteArray).size = 3 := rfl; have c3 : (⟨#[32, 123, 10]⟩ : ByteArray).size = 3 := rfl; have c6 : (⟨#[125, 10]⟩ : ByteArray).size = 2 := rfl; omega
              have fz4 : Fits (O1 ++ (⟨#[105, 102, 32]⟩ : ByteArray) ++ T0 ++ (⟨#[32, 123, 10]⟩ : ByteArray) ++ RA) D := by unfold Fits; simp only [ByteArray.size_append]; have c1 : (⟨#[105, 102, 32]⟩ : ByteArray).size = 3 := rfl; have c3 : (⟨#[32, 123, 10]⟩ : ByteArray).size = 3 := rfl; have c6 : (⟨#[125, 10]⟩ : ByteArray).size = 2 := rfl; omega
              have fz5 : Fits (O1 ++ (⟨#[105, 102, 32]⟩ : ByteArray) ++ T0 ++ (⟨#[32, 123, 10]⟩ : ByteArray) ++ RA ++ D) (⟨#[125, 10]⟩ : ByteArray) := by unfold Fits; simp only [ByteArray.size_append]; have c1 : (⟨#[105, 102, 32]⟩ : ByteArray).size = 3 := rfl; have c3 : (⟨#[32, 123, 10]⟩ : ByteArray).size = 3 := rfl; have c6 : (⟨#[125, 10]⟩ : ByteArray).size = 2 := rfl; omega
              have fd : Fits D (⟨#[32, 32]⟩ : ByteArray) := by unfold Fits; have c0 : (⟨#[32, 32]⟩ : ByteArray).size = 2 := rfl; omega
              have HT0 : Hid (∀ w1, Below W1.heap.size W1 w1 → Calls Tryz.prog 56 #[exV y0.op y0.nm y0.n (.slice B0 y0.l.length k0) y0.a] w1 fun e w' => e = .returned (.string T0) ∧ Below w1.heap.size w1 w') := Lib.hid fun w1 hb => by
                have q := HQ.out _ hb
                have r := (rtext_any (n - 1)).1 P y0.l _ y0.op y0.nm y0.n y0.a w1 (hr0.below q hP) (lo_up hP q.size) hk0 hw0.1 hw0.2 (by rw [← tE_form, ← hTd0, list_size_]; omega)
                rw [← tE_form, ← hT0] at r
                exact r
              have HBA : Hid (∀ w1, Below W1.heap.size W1 w1 → Calls Tryz.prog 25 #[.slice Aa na ca, .string (D ++ ⟨#[32, 32]⟩)] w1 fun e w' => e = .returned (.string RA) ∧ Below w1.heap.size w1 w') := Lib.hid fun w1 hb => by
                have q := HQ.out _ hb
                have r := HIH.out P x.A _ (d + 1) (D ++ ⟨#[32, 32]⟩) w1 (HSA.out.below q hP) (lo_up hP q.size) HWA.out (deeper HD.out) (by omega) (by rw [← hRAd, list_size_]; omega)
                rw [← hRA] at r
                exact r
              have HX2 := Lib.hid hx2
              have HC : Hid (∀ w1, Below W1.heap.size W1 w1 → (w1.cell? ⟨wr.heap.size, 2, none⟩ = some (.slice (some ⟨b3, off3, none⟩) 1 ce) ∧ w1.cell? ⟨wr.heap.size, 3, none⟩ = some (.slice Aa na ca)) ∧ (w1.cell? ⟨b3, off3, none⟩ = some (.string y0.op) ∧ w1.cell? ⟨b3, off3 + 1, none⟩ = some (.string y0.nm) ∧ w1.cell? ⟨b3, off3 + 2, none⟩ = some (.int .i64 y0.n) ∧ w1.cell? ⟨b3, off3 + 3, none⟩ = some (.slice B0 y0.l.length k0) ∧ w1.cell? ⟨b3, off3 + 4, none⟩ = some (.int .i64 y0.a))) := Lib.hid fun w1 hb => ⟨⟨(HK.out.below hb HK.out.lt).cell 2, (HK.out.below hb HK.out.lt).cell 3⟩, (hat0.below (HQ.out _ hb) (hP b3 hbB0))⟩
              have HC4 : Hid (∀ w1, Below W1.heap.size W1 w1 → w1.cell? ⟨wr.heap.size, 4, none⟩ = some (.slice Ab 0 cb)) := Lib.hid fun w1 hb => (HK.out.below hb HK.out.lt).cell 4
              have BD : Hid (Below W1.heap.size W1 W1.drew) := Lib.hid (Below.refl _ _).drew
              have K0 := Lib.hid (HC.out _ BD.out)
              clear hx2 hsz hT0 hTd0 hp0 hw0 hr0 hat0 hk0 hRA hRAd 
              try clear hxe
              go_wp2_with fail
              go_region_held3 (fun w1 => (w1.cell? ⟨wr.heap.size, 2, none⟩ = some (.slice (some ⟨b3, off3, none⟩) 1 ce) ∧ w1.cell? ⟨wr.heap.size, 3, none⟩ = some (.slice Aa na ca)) ∧ (w1.cell? ⟨b3, off3, none⟩ = some (.string y0.op) ∧ w1.cell? ⟨b3, off3 + 1, none⟩ = some (.string y0.nm) ∧ w1.cell? ⟨b3, off3 + 2, none⟩ = some (.int .i64 y0.n) ∧ w1.cell? ⟨b3, off3 + 3, none⟩ = some (.slice B0 y0.l.length k0) ∧ w1.cell? ⟨b3, off3 + 4, none⟩ = some (.int .i64 y0.a)))
                (first | (with_reducible exact K0.out) | (with_reducible exact KB1.out) | (with_reducible exact KB2.out) | (with_reducible exact KB3.out))
                (first
                | (go_at_call 56; have HX := HT0.out _ BD.out; (with_reducible refine HX.mono ?_); clear HX; rintro e w_B1 ⟨rfl, hb⟩; have B1 := Lib.hid (thru BD.out hb); have KB1 := Lib.hid (HC.out _ B1.out); clear hb)
                | (go_at_call 25; have HX := HBA.out _ B1.out; (with_reducible refine HX.mono ?_); clear HX; rintro e w_B2 ⟨rfl, hb⟩; have B2 := Lib.hid (thru B1.out hb); have KB2 := Lib.hid (HC.out _ B2.out); have z9 := HC4.out _ B2.out; clear hb))
              all_goals go_wp2_with fail
              all_goals (
                go_meet
                exact ⟨_, rfl, Lib.hid (by rw [HLn.out, HX2.out]; simp [HO1.out, HD.out]), HQ.out _ B2.out⟩
              )
          · obtain ⟨y0, hxe⟩ : ∃ y, x.e = [y] := List.length_eq_one_iff.1 HNe.out
            obtain ⟨b3, off3, L0, rfl, hbB0, hat0, hk0, -, hr0⟩ := HE.out.at_ 0 y0 (by rw [hxe]; rfl)
            obtain ⟨B0, k0, rfl, -, -⟩ := hr0.slice
            have hw0 := wholeL_at HWe.out (i := 0) (x := y0) (by rw [hxe]; rfl)
            rw [wholeE_X, Bool.and_eq_true] at hw0
            obtain ⟨T0, hT0⟩ : ∃ T : ByteArray, T = ⟨(tE y0).toArray⟩ := ⟨_, rfl⟩
            have hTd0 : T0.data.toList = tE y0 := by rw [hT0]
            have hp0 : part0 (tL x.e) 0 = T0.data.toList := by rw [hTd0]; exact part0_some (by rw [hxe]; rfl)
            have HTX : Hid (textS Lib.itoa x d = stmtF ⟨#[119, 104, 105, 108, 101]⟩ x.nm (tL x.e) (textB Lib.itoa x.A (d + 1)) (textB Lib.itoa x.B (d + 1)) nb d) := Lib.hid (by rw [textS_X, HOp.out, HNb.out])
            have hx2 := HTX.out
            rw [stm_while] at hx2
            rw [hp0] at hx2
            obtain ⟨RA, hRA⟩ : ∃ T : ByteArray, T = ⟨(textB Lib.itoa x.A (d + 1)).toArray⟩ := ⟨_, rfl⟩
            have hRAd : RA.data.toList = textB Lib.itoa x.A (d + 1) := by rw [hRA]
            rw [← hRAd] at hx2
            unfold blockF at hx2
            have hsz := congrArg List.length hx2
            simp only [List.length_append, List.length_cons, List.length_nil, list_size_, ind_len] at hsz
            have fz0 : Fits (O1) (⟨#[119, 104, 105, 108, 101, 32]⟩ : ByteArray) := by unfold Fits; have c1 : (⟨#[119, 104, 105, 108, 101, 32]⟩ : ByteArray).size = 6 := rfl; have c3 : (⟨#[32, 123, 10]⟩ : ByteArray).size = 3 := rfl; have c6 : (⟨#[125, 10]⟩ : ByteArray).size = 2 := rfl; omega
            have fz1 : Fits (O1 ++ (⟨#[119, 104, 105, 108, 101, 32]⟩ : ByteArray)) T0 := by unfold Fits; simp only [ByteArray.size_append]; have c1 : (⟨#[119, 104, 105, 108, 101, 32]⟩ : ByteArray).size = 6 := rfl; have c3 : (⟨#[32, 123, 10]⟩ : ByteArray).size = 3 := rfl; have c6 : (⟨#[125, 10]⟩ : ByteArray).size = 2 := rfl; omega
            have fz2 : Fits (O1 ++ (⟨#[119, 104, 105, 108, 101, 32]⟩ : ByteArray) ++ T0) (⟨#[32, 123, 10]⟩ : ByteArray) := by unfold Fits; simp only [ByteArray.size_append]; have c1 : (⟨#[119, 104, 105, 108, 101, 32]⟩ : ByteArray).size = 6 := rfl; have c3 : (⟨#[32, 123, 10]⟩ : ByteArray).size = 3 := rfl; have c6 : (⟨#[125, 10]⟩ : ByteArray).size = 2 := rfl; omega
            have fz3 : Fits (O1 ++ (⟨#[119, 104, 105, 108, 101, 32]⟩ : ByteArray) ++ T0 ++ (⟨#[32, 123, 10]⟩ : ByteArray)) RA := by unfold Fits; simp only [ByteArray.size_append]; have c1 : (⟨#[119, 104, 105, 108, 101, 32]⟩ : ByteArray).size = 6 := rfl; have c3 : (⟨#[32, 123, 10]⟩ : ByteArray).size = 3 := rfl; have c6 : (⟨#[125, 10]⟩ : ByteArray).size = 2 := rfl; omega
            have fz4 : Fits (O1 ++ (⟨#[119, 104, 105, 108, 101, 32]⟩ : ByteArray) ++ T0 ++ (⟨#[32, 123, 10]⟩ : ByteArray) ++ RA) D := by unfold Fits; simp only [ByteArray.size_append]; have c1 : (⟨#[119, 104, 105, 108, 101, 32]⟩ : ByteArray).size = 6 := rfl; have c3 : (⟨#[32, 123, 10]⟩ : ByteArray).size = 3 := rfl; have c6 : (⟨#[125, 10]⟩ : ByteArray).size = 2 := rfl; omega
            have fz5 : Fits (O1 ++ (⟨#[119, 104, 105, 108, 101, 32]⟩ : ByteArray) ++ T0 ++ (⟨#[32, 123, 10]⟩ : ByteArray) ++ RA ++ D) (⟨#[125, 10]⟩ : ByteArray) := by unfold Fits; simp only [ByteArray.size_append]; have c1 : (⟨#[119, 104, 105, 108, 101, 32]⟩ : ByteArray).size = 6 := rfl; have c3 : (⟨#[32, 123, 10]⟩ : ByteArray).size = 3 := rfl; have c6 : (⟨#[125, 10]⟩ : ByteArray).size = 2 := rfl; omega
            have fd : Fits D (⟨#[32, 32]⟩ : ByteArray) := by unfold Fits; have c0 : (⟨#[32, 32]⟩ : ByteArray).size = 2 := rfl; omega
            have HT0 : Hid (∀ w1, Below W1.heap.size W1 w1 → Calls Tryz.prog 56 #[exV y0.op y0.nm y0.n (.slice B0 y0.l.length k0) y0.a] w1 fun e w' => e = .returned (.string T0) ∧ Below w1.heap.size w1 w') := Lib.hid fun w1 hb => by
              have q := HQ.out _ hb
              have r := (rtext_any (n - 1)).1 P y0.l _ y0.op y0.nm y0.n y0.a w1 (hr0.below q hP) (lo_up hP q.size) hk0 hw0.1 hw0.2 (by rw [← tE_form, ← hTd0, list_size_]; omega)
              rw [← tE_form, ← hT0] at r
              exact r
            have HBA : Hid (∀ w1, Below W1.heap.size W1 w1 → Calls Tryz.prog 25 #[.slice Aa na ca, .string (D ++ ⟨#[32, 32]⟩)] w1 fun e w' => e = .returned (.string RA) ∧ Below w1.heap.size w1 w') := Lib.hid fun w1 hb => by
              have q := HQ.out _ hb
              have r := HIH.out P x.A _ (d + 1) (D ++ ⟨#[32, 32]⟩) w1 (HSA.out.below q hP) (lo_up hP q.size) HWA.out (deeper HD.out) (by omega) (by rw [← hRAd, list_size_]; omega)
              rw [← hRA] at r
              exact r
            have HX2 := Lib.hid hx2
            have HC : Hid (∀ w1, Below W1.heap.size W1 w1 → (w1.cell? ⟨wr.heap.size, 2, none⟩ = some (.slice (some ⟨b3, off3, none⟩) 1 ce) ∧ w1.cell? ⟨wr.heap.size, 3, none⟩ = some (.slice Aa na ca)) ∧ (w1.cell? ⟨b3, off3, none⟩ = some (.string y0.op) ∧ w1.cell? ⟨b3, off3 + 1, none⟩ = some (.string y0.nm) ∧ w1.cell? ⟨b3, off3 + 2, none⟩ = some (.int .i64 y0.n) ∧ w1.cell? ⟨b3, off3 + 3, none⟩ = some (.slice B0 y0.l.length k0) ∧ w1.cell? ⟨b3, off3 + 4, none⟩ = some (.int .i64 y0.a))) := Lib.hid fun w1 hb => ⟨⟨(HK.out.below hb HK.out.lt).cell 2, (HK.out.below hb HK.out.lt).cell 3⟩, (hat0.below (HQ.out _ hb) (hP b3 hbB0))⟩
            have BD : Hid (Below W1.heap.size W1 W1.drew) := Lib.hid (Below.refl _ _).drew
            have K0 := Lib.hid (HC.out _ BD.out)
            clear hx2 hsz hT0 hTd0 hp0 hw0 hr0 hat0 hk0 hRA hRAd 
            try clear hxe
            go_wp2_with fail
            go_region_held3 (fun w1 => (w1.cell? ⟨wr.heap.size, 2, none⟩ = some (.slice (some ⟨b3, off3, none⟩) 1 ce) ∧ w1.cell? ⟨wr.heap.size, 3, none⟩ = some (.slice Aa na ca)) ∧ (w1.cell? ⟨b3, off3, none⟩ = some (.string y0.op) ∧ w1.cell? ⟨b3, off3 + 1, none⟩ = some (.string y0.nm) ∧ w1.cell? ⟨b3, off3 + 2, none⟩ = some (.int .i64 y0.n) ∧ w1.cell? ⟨b3, off3 + 3, none⟩ = some (.slice B0 y0.l.length k0) ∧ w1.cell? ⟨b3, off3 + 4, none⟩ = some (.int .i64 y0.a)))
              (first | (with_reducible exact K0.out) | (with_reducible exact KB1.out) | (with_reducible exact KB2.out) | (with_reducible exact KB3.out))
              (first
              | (go_at_call 56; have HX := HT0.out _ BD.out; (with_reducible refine HX.mono ?_); clear HX; rintro e w_B1 ⟨rfl, hb⟩; have B1 := Lib.hid (thru BD.out hb); have KB1 := Lib.hid (HC.out _ B1.out); clear hb)
              | (go_at_call 25; have HX := HBA.out _ B1.out; (with_reducible refine HX.mono ?_); clear HX; rintro e w_B2 ⟨rfl, hb⟩; have B2 := Lib.hid (thru B1.out hb); have KB2 := Lib.hid (HC.out _ B2.out); clear hb))
            all_goals go_wp2_with fail
            all_goals (
              go_meet
              exact ⟨_, rfl, Lib.hid (by rw [HLn.out, HX2.out]; simp [HO1.out, HD.out]), HQ.out _ B2.out⟩
            )
          · obtain ⟨y0, y1, hxe⟩ : ∃ y z, x.e = [y, z] := len_two HNe.out
            obtain ⟨b3, off3, L0, rfl, hbB0, hat0, hk0, -, hr0⟩ := HE.out.at_ 0 y0 (by rw [hxe]; rfl)
            obtain ⟨B0, k0, rfl, -, -⟩ := hr0.slice
            have hw0 := wholeL_at HWe.out (i := 0) (x := y0) (by rw [hxe]; rfl)
            rw [wholeE_X, Bool.and_eq_true] at hw0
            obtain ⟨T0, hT0⟩ : ∃ T : ByteArray, T = ⟨(tE y0).toArray⟩ := ⟨_, rfl⟩
            have hTd0 : T0.data.toList = tE y0 := by rw [hT0]
            have hp0 : part0 (tL x.e) 0 = T0.data.toList := by rw [hTd0]; exact part0_some (by rw [hxe]; rfl)
            obtain ⟨b4, off4, L1, hA1, -, hat1, hk1, -, hr1⟩ := HE.out.at_ 1 y1 (by rw [hxe]; rfl)
            injection hA1 with hA1
            injection hA1 with hA1 hA2
            subst hA1
            subst hA2
            obtain ⟨B1, k1, rfl, -, -⟩ := hr1.slice
            have hw1 := wholeL_at HWe.out (i := 1) (x := y1) (by rw [hxe]; rfl)
            rw [wholeE_X, Bool.and_eq_true] at hw1
            obtain ⟨T1, hT1⟩ : ∃ T : ByteArray, T = ⟨(tE y1).toArray⟩ := ⟨_, rfl⟩
            have hTd1 : T1.data.toList = tE y1 := by rw [hT1]
            have hp1 : part0 (tL x.e) 1 = T1.data.toList := by rw [hTd1]; exact part0_some (by rw [hxe]; rfl)
            have HTX : Hid (textS Lib.itoa x d = stmtF ⟨#[112, 117, 116]⟩ x.nm (tL x.e) (textB Lib.itoa x.A (d + 1)) (textB Lib.itoa x.B (d + 1)) nb d) := Lib.hid (by rw [textS_X, HOp.out, HNb.out])
            have hx2 := HTX.out
            rw [stm_put] at hx2
            rw [hp0, hp1] at hx2
            have hsz := congrArg List.length hx2
            simp only [List.length_append, List.length_cons, List.length_nil, list_size_] at hsz
            have fz0 : Fits (O1) x.nm := by unfold Fits; have c2 : (⟨#[91]⟩ : ByteArray).size = 1 := rfl; have c4 : (⟨#[93, 32, 61, 32]⟩ : ByteArray).size = 4 := rfl; have c6 : (⟨#[59, 10]⟩ : ByteArray).size = 2 := rfl; omega
            have fz1 : Fits (O1 ++ x.nm) (⟨#[91]⟩ : ByteArray) := by unfold Fits; simp only [ByteArray.size_append]; have c2 : (⟨#[91]⟩ : ByteArray).size = 1 := rfl; have c4 : (⟨#[93, 32, 61, 32]⟩ : ByteArray).size = 4 := rfl; have c6 : (⟨#[59, 10]⟩ : ByteArray).size = 2 := rfl; omega
            have fz2 : Fits (O1 ++ x.nm ++ (⟨#[91]⟩ : ByteArray)) T0 := by unfold Fits; simp only [ByteArray.size_append]; have c2 : (⟨#[91]⟩ : ByteArray).size = 1 := rfl; have c4 : (⟨#[93, 32, 61, 32]⟩ : ByteArray).size = 4 := rfl; have c6 : (⟨#[59, 10]⟩ : ByteArray).size = 2 := rfl; omega
            have fz3 : Fits (O1 ++ x.nm ++ (⟨#[91]⟩ : ByteArray) ++ T0) (⟨#[93, 32, 61, 32]⟩ : ByteArray) := by unfold Fits; simp only [ByteArray.size_append]; have c2 : (⟨#[91]⟩ : ByteArray).size = 1 := rfl; have c4 : (⟨#[93, 32, 61, 32]⟩ : ByteArray).size = 4 := rfl; have c6 : (⟨#[59, 10]⟩ : ByteArray).size = 2 := rfl; omega
            have fz4 : Fits (O1 ++ x.nm ++ (⟨#[91]⟩ : ByteArray) ++ T0 ++ (⟨#[93, 32, 61, 32]⟩ : ByteArray)) T1 := by unfold Fits; simp only [ByteArray.size_append]; have c2 : (⟨#[91]⟩ : ByteArray).size = 1 := rfl; have c4 : (⟨#[93, 32, 61, 32]⟩ : ByteArray).size = 4 := rfl; have c6 : (⟨#[59, 10]⟩ : ByteArray).size = 2 := rfl; omega
            have fz5 : Fits (O1 ++ x.nm ++ (⟨#[91]⟩ : ByteArray) ++ T0 ++ (⟨#[93, 32, 61, 32]⟩ : ByteArray) ++ T1) (⟨#[59, 10]⟩ : ByteArray) := by unfold Fits; simp only [ByteArray.size_append]; have c2 : (⟨#[91]⟩ : ByteArray).size = 1 := rfl; have c4 : (⟨#[93, 32, 61, 32]⟩ : ByteArray).size = 4 := rfl; have c6 : (⟨#[59, 10]⟩ : ByteArray).size = 2 := rfl; omega
            have HT0 : Hid (∀ w1, Below W1.heap.size W1 w1 → Calls Tryz.prog 56 #[exV y0.op y0.nm y0.n (.slice B0 y0.l.length k0) y0.a] w1 fun e w' => e = .returned (.string T0) ∧ Below w1.heap.size w1 w') := Lib.hid fun w1 hb => by
              have q := HQ.out _ hb
              have r := (rtext_any (n - 1)).1 P y0.l _ y0.op y0.nm y0.n y0.a w1 (hr0.below q hP) (lo_up hP q.size) hk0 hw0.1 hw0.2 (by rw [← tE_form, ← hTd0, list_size_]; omega)
              rw [← tE_form, ← hT0] at r
              exact r
            have HT1 : Hid (∀ w1, Below W1.heap.size W1 w1 → Calls Tryz.prog 56 #[exV y1.op y1.nm y1.n (.slice B1 y1.l.length k1) y1.a] w1 fun e w' => e = .returned (.string T1) ∧ Below w1.heap.size w1 w') := Lib.hid fun w1 hb => by
              have q := HQ.out _ hb
              have r := (rtext_any (n - 1)).1 P y1.l _ y1.op y1.nm y1.n y1.a w1 (hr1.below q hP) (lo_up hP q.size) hk1 hw1.1 hw1.2 (by rw [← tE_form, ← hTd1, list_size_]; omega)
              rw [← tE_form, ← hT1] at r
              exact r
            have HX2 := Lib.hid hx2
            have HC : Hid (∀ w1, Below W1.heap.size W1 w1 → (w1.cell? ⟨wr.heap.size, 1, none⟩ = some (.string x.nm) ∧ w1.cell? ⟨wr.heap.size, 2, none⟩ = some (.slice (some ⟨b3, off3, none⟩) 2 ce)) ∧ (w1.cell? ⟨b3, off3, none⟩ = some (.string y0.op) ∧ w1.cell? ⟨b3, off3 + 1, none⟩ = some (.string y0.nm) ∧ w1.cell? ⟨b3, off3 + 2, none⟩ = some (.int .i64 y0.n) ∧ w1.cell? ⟨b3, off3 + 3, none⟩ = some (.slice B0 y0.l.length k0) ∧ w1.cell? ⟨b3, off3 + 4, none⟩ = some (.int .i64 y0.a)) ∧ (w1.cell? ⟨b3, off3 + 5, none⟩ = some (.string y1.op) ∧ w1.cell? ⟨b3, off3 + 6, none⟩ = some (.string y1.nm) ∧ w1.cell? ⟨b3, off3 + 7, none⟩ = some (.int .i64 y1.n) ∧ w1.cell? ⟨b3, off3 + 8, none⟩ = some (.slice B1 y1.l.length k1) ∧ w1.cell? ⟨b3, off3 + 9, none⟩ = some (.int .i64 y1.a))) := Lib.hid fun w1 hb => ⟨⟨(HK.out.below hb HK.out.lt).cell 1, (HK.out.below hb HK.out.lt).cell 2⟩, (hat0.below (HQ.out _ hb) (hP b3 hbB0)), (hat1.below (HQ.out _ hb) (hP b3 hbB0))⟩
            have BD : Hid (Below W1.heap.size W1 W1.drew) := Lib.hid (Below.refl _ _).drew
            have K0 := Lib.hid (HC.out _ BD.out)
            clear hx2 hsz hT0 hTd0 hp0 hw0 hr0 hat0 hk0 hT1 hTd1 hp1 hw1 hr1 hat1 hk1
            try clear hxe
            go_wp2_with fail
            go_region_held3 (fun w1 => (w1.cell? ⟨wr.heap.size, 1, none⟩ = some (.string x.nm) ∧ w1.cell? ⟨wr.heap.size, 2, none⟩ = some (.slice (some ⟨b3, off3, none⟩) 2 ce)) ∧ (w1.cell? ⟨b3, off3, none⟩ = some (.string y0.op) ∧ w1.cell? ⟨b3, off3 + 1, none⟩ = some (.string y0.nm) ∧ w1.cell? ⟨b3, off3 + 2, none⟩ = some (.int .i64 y0.n) ∧ w1.cell? ⟨b3, off3 + 3, none⟩ = some (.slice B0 y0.l.length k0) ∧ w1.cell? ⟨b3, off3 + 4, none⟩ = some (.int .i64 y0.a)) ∧ (w1.cell? ⟨b3, off3 + 5, none⟩ = some (.string y1.op) ∧ w1.cell? ⟨b3, off3 + 6, none⟩ = some (.string y1.nm) ∧ w1.cell? ⟨b3, off3 + 7, none⟩ = some (.int .i64 y1.n) ∧ w1.cell? ⟨b3, off3 + 8, none⟩ = some (.slice B1 y1.l.length k1) ∧ w1.cell? ⟨b3, off3 + 9, none⟩ = some (.int .i64 y1.a)))
              (first | (with_reducible exact K0.out) | (with_reducible exact KB1.out) | (with_reducible exact KB2.out) | (with_reducible exact KB3.out))
              (first
              | (go_at_call 56; have HX := HT0.out _ BD.out; (with_reducible refine HX.mono ?_); clear HX; rintro e w_B1 ⟨rfl, hb⟩; have B1 := Lib.hid (thru BD.out hb); have KB1 := Lib.hid (HC.out _ B1.out); clear hb)
              | (go_at_call 56; have HX := HT1.out _ B1.out; (with_reducible refine HX.mono ?_); clear HX; rintro e w_B2 ⟨rfl, hb⟩; have B2 := Lib.hid (thru B1.out hb); have KB2 := Lib.hid (HC.out _ B2.out); clear hb))
            all_goals go_wp2_with fail
            all_goals (
              go_meet
              exact ⟨_, rfl, Lib.hid (by rw [HLn.out, HX2.out]; simp [HO1.out]), HQ.out _ B2.out⟩
            )
          · obtain ⟨y0, y1, hxe⟩ : ∃ y z, x.e = [y, z] := len_two HNe.out
            obtain ⟨b3, off3, L0, rfl, hbB0, hat0, hk0, -, hr0⟩ := HE.out.at_ 0 y0 (by rw [hxe]; rfl)
            obtain ⟨B0, k0, rfl, -, -⟩ := hr0.slice
            have hw0 := wholeL_at HWe.out (i := 0) (x := y0) (by rw [hxe]; rfl)
            rw [wholeE_X, Bool.and_eq_true] at hw0
            obtain ⟨T0, hT0⟩ : ∃ T : ByteArray, T = ⟨(tE y0).toArray⟩ := ⟨_, rfl⟩
            have hTd0 : T0.data.toList = tE y0 := by rw [hT0]
            have hp0 : part0 (tL x.e) 0 = T0.data.toList := by rw [hTd0]; exact part0_some (by rw [hxe]; rfl)
            obtain ⟨b4, off4, L1, hA1, -, hat1, hk1, -, hr1⟩ := HE.out.at_ 1 y1 (by rw [hxe]; rfl)
            injection hA1 with hA1
            injection hA1 with hA1 hA2
            subst hA1
            subst hA2
            obtain ⟨B1, k1, rfl, -, -⟩ := hr1.slice
            have hw1 := wholeL_at HWe.out (i := 1) (x := y1) (by rw [hxe]; rfl)
            rw [wholeE_X, Bool.and_eq_true] at hw1
            obtain ⟨T1, hT1⟩ : ∃ T : ByteArray, T = ⟨(tE y1).toArray⟩ := ⟨_, rfl⟩
            have hTd1 : T1.data.toList = tE y1 := by rw [hT1]
            have hp1 : part0 (tL x.e) 1 = T1.data.toList := by rw [hTd1]; exact part0_some (by rw [hxe]; rfl)
            have HTX : Hid (textS Lib.itoa x d = stmtF ⟨#[105, 110, 112, 117, 116]⟩ x.nm (tL x.e) (textB Lib.itoa x.A (d + 1)) (textB Lib.itoa x.B (d + 1)) nb d) := Lib.hid (by rw [textS_X, HOp.out, HNb.out])
            have hx2 := HTX.out
            rw [stm_input, show endsF (tL x.e) = [40] ++ part0 (tL x.e) 0 ++ [44, 32] ++ part0 (tL x.e) 1 ++ [41] by rw [hxe]; rfl] at hx2
            rw [hp0, hp1] at hx2
            have hsz := congrArg List.length hx2
            simp only [List.length_append, List.length_cons, List.length_nil, list_size_] at hsz
            have fz0 : Fits (O1) x.nm := by unfold Fits; have c2 : (⟨#[32, 61, 32, 105, 110, 112, 117, 116]⟩ : ByteArray).size = 8 := rfl; have c3 : (⟨#[40]⟩ : ByteArray).size = 1 := rfl; have c5 : (⟨#[44, 32]⟩ : ByteArray).size = 2 := rfl; have c7 : (⟨#[41]⟩ : ByteArray).size = 1 := rfl; have c8 : (⟨#[59, 10]⟩ : ByteArray).size = 2 := rfl; omega
            have fz1 : Fits (O1 ++ x.nm) (⟨#[32, 61, 32, 105, 110, 112, 117, 116]⟩ : ByteArray) := by unfold Fits; simp only [ByteArray.size_append]; have c2 : (⟨#[32, 61, 32, 105, 110, 112, 117, 116]⟩ : ByteArray).size = 8 := rfl; have c3 : (⟨#[40]⟩ : ByteArray).size = 1 := rfl; have c5 : (⟨#[44, 32]⟩ : ByteArray).size = 2 := rfl; have c7 : (⟨#[41]⟩ : ByteArray).size = 1 := rfl; have c8 : (⟨#[59, 10]⟩ : ByteArray).size = 2 := rfl; omega
            have fz2 : Fits (O1 ++ x.nm ++ (⟨#[32, 61, 32, 105, 110, 112, 117, 116]⟩ : ByteArray)) (⟨#[40]⟩ : ByteArray) := by unfold Fits; simp only [ByteArray.size_append]; have c2 : (⟨#[32, 61, 32, 105, 110, 112, 117, 116]⟩ : ByteArray).size = 8 := rfl; have c3 : (⟨#[40]⟩ : ByteArray).size = 1 := rfl; have c5 : (⟨#[44, 32]⟩ : ByteArray).size = 2 := rfl; have c7 : (⟨#[41]⟩ : ByteArray).size = 1 := rfl; have c8 : (⟨#[59, 10]⟩ : ByteArray).size = 2 := rfl; omega
            have fz3 : Fits (O1 ++ x.nm ++ (⟨#[32, 61, 32, 105, 110, 112, 117, 116]⟩ : ByteArray) ++ (⟨#[40]⟩ : ByteArray)) T0 := by unfold Fits; simp only [ByteArray.size_append]; have c2 : (⟨#[32, 61, 32, 105, 110, 112, 117, 116]⟩ : ByteArray).size = 8 := rfl; have c3 : (⟨#[40]⟩ : ByteArray).size = 1 := rfl; have c5 : (⟨#[44, 32]⟩ : ByteArray).size = 2 := rfl; have c7 : (⟨#[41]⟩ : ByteArray).size = 1 := rfl; have c8 : (⟨#[59, 10]⟩ : ByteArray).size = 2 := rfl; omega
            have fz4 : Fits (O1 ++ x.nm ++ (⟨#[32, 61, 32, 105, 110, 112, 117, 116]⟩ : ByteArray) ++ (⟨#[40]⟩ : ByteArray) ++ T0) (⟨#[44, 32]⟩ : ByteArray) := by unfold Fits; simp only [ByteArray.size_append]; have c2 : (⟨#[32, 61, 32, 105, 110, 112, 117, 116]⟩ : ByteArray).size = 8 := rfl; have c3 : (⟨#[40]⟩ : ByteArray).size = 1 := rfl; have c5 : (⟨#[44, 32]⟩ : ByteArray).size = 2 := rfl; have c7 : (⟨#[41]⟩ : ByteArray).size = 1 := rfl; have c8 : (⟨#[59, 10]⟩ : ByteArray).size = 2 := rfl; omega
            have fz5 : Fits (O1 ++ x.nm ++ (⟨#[32, 61, 32, 105, 110, 112, 117, 116]⟩ : ByteArray) ++ (⟨#[40]⟩ : ByteArray) ++ T0 ++ (⟨#[44, 32]⟩ : ByteArray)) T1 := by unfold Fits; simp only [ByteArray.size_append]; have c2 : (⟨#[32, 61, 32, 105, 110, 112, 117, 116]⟩ : ByteArray).size = 8 := rfl; have c3 : (⟨#[40]⟩ : ByteArray).size = 1 := rfl; have c5 : (⟨#[44, 32]⟩ : ByteArray).size = 2 := rfl; have c7 : (⟨#[41]⟩ : ByteArray).size = 1 := rfl; have c8 : (⟨#[59, 10]⟩ : ByteArray).size = 2 := rfl; omega
            have fz6 : Fits (O1 ++ x.nm ++ (⟨#[32, 61, 32, 105, 110, 112, 117, 116]⟩ : ByteArray) ++ (⟨#[40]⟩ : ByteArray) ++ T0 ++ (⟨#[44, 32]⟩ : ByteArray) ++ T1) (⟨#[41]⟩ : ByteArray) := by unfold Fits; simp only [ByteArray.size_append]; have c2 : (⟨#[32, 61, 32, 105, 110, 112, 117, 116]⟩ : ByteArray).size = 8 := rfl; have c3 : (⟨#[40]⟩ : ByteArray).size = 1 := rfl; have c5 : (⟨#[44, 32]⟩ : ByteArray).size = 2 := rfl; have c7 : (⟨#[41]⟩ : ByteArray).size = 1 := rfl; have c8 : (⟨#[59, 10]⟩ : ByteArray).size = 2 := rfl; omega
            have fz7 : Fits (O1 ++ x.nm ++ (⟨#[32, 61, 32, 105, 110, 112, 117, 116]⟩ : ByteArray) ++ (⟨#[40]⟩ : ByteArray) ++ T0 ++ (⟨#[44, 32]⟩ : ByteArray) ++ T1 ++ (⟨#[41]⟩ : ByteArray)) (⟨#[59, 10]⟩ : ByteArray) := by unfold Fits; simp only [ByteArray.size_append]; have c2 : (⟨#[32, 61, 32, 105, 110, 112, 117, 116]⟩ : ByteArray).size = 8 := rfl; have c3 : (⟨#[40]⟩ : ByteArray).size = 1 := rfl; have c5 : (⟨#[44, 32]⟩ : ByteArray).size = 2 := rfl; have c7 : (⟨#[41]⟩ : ByteArray).size = 1 := rfl; have c8 : (⟨#[59, 10]⟩ : ByteArray).size = 2 := rfl; omega
            have HT0 : Hid (∀ w1, Below W1.heap.size W1 w1 → Calls Tryz.prog 56 #[exV y0.op y0.nm y0.n (.slice B0 y0.l.length k0) y0.a] w1 fun e w' => e = .returned (.string T0) ∧ Below w1.heap.size w1 w') := Lib.hid fun w1 hb => by
              have q := HQ.out _ hb
              have r := (rtext_any (n - 1)).1 P y0.l _ y0.op y0.nm y0.n y0.a w1 (hr0.below q hP) (lo_up hP q.size) hk0 hw0.1 hw0.2 (by rw [← tE_form, ← hTd0, list_size_]; omega)
              rw [← tE_form, ← hT0] at r
              exact r
            have HT1 : Hid (∀ w1, Below W1.heap.size W1 w1 → Calls Tryz.prog 56 #[exV y1.op y1.nm y1.n (.slice B1 y1.l.length k1) y1.a] w1 fun e w' => e = .returned (.string T1) ∧ Below w1.heap.size w1 w') := Lib.hid fun w1 hb => by
              have q := HQ.out _ hb
              have r := (rtext_any (n - 1)).1 P y1.l _ y1.op y1.nm y1.n y1.a w1 (hr1.below q hP) (lo_up hP q.size) hk1 hw1.1 hw1.2 (by rw [← tE_form, ← hTd1, list_size_]; omega)
              rw [← tE_form, ← hT1] at r
              exact r
            have HX2 := Lib.hid hx2
            have HC : Hid (∀ w1, Below W1.heap.size W1 w1 → (w1.cell? ⟨wr.heap.size, 2, none⟩ = some (.slice (some ⟨b3, off3, none⟩) 2 ce)) ∧ (w1.cell? ⟨b3, off3, none⟩ = some (.string y0.op) ∧ w1.cell? ⟨b3, off3 + 1, none⟩ = some (.string y0.nm) ∧ w1.cell? ⟨b3, off3 + 2, none⟩ = some (.int .i64 y0.n) ∧ w1.cell? ⟨b3, off3 + 3, none⟩ = some (.slice B0 y0.l.length k0) ∧ w1.cell? ⟨b3, off3 + 4, none⟩ = some (.int .i64 y0.a)) ∧ (w1.cell? ⟨b3, off3 + 5, none⟩ = some (.string y1.op) ∧ w1.cell? ⟨b3, off3 + 6, none⟩ = some (.string y1.nm) ∧ w1.cell? ⟨b3, off3 + 7, none⟩ = some (.int .i64 y1.n) ∧ w1.cell? ⟨b3, off3 + 8, none⟩ = some (.slice B1 y1.l.length k1) ∧ w1.cell? ⟨b3, off3 + 9, none⟩ = some (.int .i64 y1.a))) := Lib.hid fun w1 hb => ⟨(HK.out.below hb HK.out.lt).cell 2, (hat0.below (HQ.out _ hb) (hP b3 hbB0)), (hat1.below (HQ.out _ hb) (hP b3 hbB0))⟩
            have BD : Hid (Below W1.heap.size W1 W1.drew) := Lib.hid (Below.refl _ _).drew
            have K0 := Lib.hid (HC.out _ BD.out)
            clear hx2 hsz hT0 hTd0 hp0 hw0 hr0 hat0 hk0 hT1 hTd1 hp1 hw1 hr1 hat1 hk1
            try clear hxe
            go_wp2_with fail
            go_region_held3 (fun w1 => (w1.cell? ⟨wr.heap.size, 2, none⟩ = some (.slice (some ⟨b3, off3, none⟩) 2 ce)) ∧ (w1.cell? ⟨b3, off3, none⟩ = some (.string y0.op) ∧ w1.cell? ⟨b3, off3 + 1, none⟩ = some (.string y0.nm) ∧ w1.cell? ⟨b3, off3 + 2, none⟩ = some (.int .i64 y0.n) ∧ w1.cell? ⟨b3, off3 + 3, none⟩ = some (.slice B0 y0.l.length k0) ∧ w1.cell? ⟨b3, off3 + 4, none⟩ = some (.int .i64 y0.a)) ∧ (w1.cell? ⟨b3, off3 + 5, none⟩ = some (.string y1.op) ∧ w1.cell? ⟨b3, off3 + 6, none⟩ = some (.string y1.nm) ∧ w1.cell? ⟨b3, off3 + 7, none⟩ = some (.int .i64 y1.n) ∧ w1.cell? ⟨b3, off3 + 8, none⟩ = some (.slice B1 y1.l.length k1) ∧ w1.cell? ⟨b3, off3 + 9, none⟩ = some (.int .i64 y1.a)))
              (first | (with_reducible exact K0.out) | (with_reducible exact KB1.out) | (with_reducible exact KB2.out) | (with_reducible exact KB3.out))
              (first
              | (go_at_call 56; have HX := HT0.out _ BD.out; (with_reducible refine HX.mono ?_); clear HX; rintro e w_B1 ⟨rfl, hb⟩; have B1 := Lib.hid (thru BD.out hb); have KB1 := Lib.hid (HC.out _ B1.out); clear hb)
              | (go_at_call 56; have HX := HT1.out _ B1.out; (with_reducible refine HX.mono ?_); clear HX; rintro e w_B2 ⟨rfl, hb⟩; have B2 := Lib.hid (thru B1.out hb); have KB2 := Lib.hid (HC.out _ B2.out); clear hb))
            all_goals go_wp2_with fail
            all_goals (
              go_meet
              exact ⟨_, rfl, Lib.hid (by rw [HLn.out, HX2.out]; simp [HO1.out]), HQ.out _ B2.out⟩
            )
          · subst hne0
            have hxe : x.e = [] := List.length_eq_zero_iff.1 HNe.out
            have HTX : Hid (textS Lib.itoa x d = stmtF ⟨#[105, 110, 112, 117, 116]⟩ x.nm (tL x.e) (textB Lib.itoa x.A (d + 1)) (textB Lib.itoa x.B (d + 1)) nb d) := Lib.hid (by rw [textS_X, HOp.out, HNb.out])
            have hx2 := HTX.out
            rw [stm_input, show endsF (tL x.e) = [] by rw [hxe]; rfl] at hx2
            have hsz := congrArg List.length hx2
            simp only [List.length_append, List.length_cons, List.length_nil, list_size_] at hsz
            have fz0 : Fits (O1) x.nm := by unfold Fits; have c2 : (⟨#[32, 61, 32, 105, 110, 112, 117, 116]⟩ : ByteArray).size = 8 := rfl; have c3 : (⟨#[59, 10]⟩ : ByteArray).size = 2 := rfl; omega
            have fz1 : Fits (O1 ++ x.nm) (⟨#[32, 61, 32, 105, 110, 112, 117, 116]⟩ : ByteArray) := by unfold Fits; simp only [ByteArray.size_append]; have c2 : (⟨#[32, 61, 32, 105, 110, 112, 117, 116]⟩ : ByteArray).size = 8 := rfl; have c3 : (⟨#[59, 10]⟩ : ByteArray).size = 2 := rfl; omega
            have fz2 : Fits (O1 ++ x.nm ++ (⟨#[32, 61, 32, 105, 110, 112, 117, 116]⟩ : ByteArray)) (⟨#[59, 10]⟩ : ByteArray) := by unfold Fits; simp only [ByteArray.size_append]; have c2 : (⟨#[32, 61, 32, 105, 110, 112, 117, 116]⟩ : ByteArray).size = 8 := rfl; have c3 : (⟨#[59, 10]⟩ : ByteArray).size = 2 := rfl; omega
            have HX2 := Lib.hid hx2
            clear hx2 hsz 
            try clear hxe
            go_wp2_with fail
            go_meet
            exact ⟨_, rfl, Lib.hid (by rw [HLn.out, HX2.out]; simp [HO1.out]), HQ.out _ D0.out⟩
          · have hxe : x.e = [] := List.length_eq_zero_iff.1 HNe.out
            have HTX : Hid (textS Lib.itoa x d = stmtF ⟨#[99, 97, 108, 108]⟩ x.nm (tL x.e) (textB Lib.itoa x.A (d + 1)) (textB Lib.itoa x.B (d + 1)) nb d) := Lib.hid (by rw [textS_X, HOp.out, HNb.out])
            have hx2 := HTX.out
            rw [stm_call] at hx2
            have hsz := congrArg List.length hx2
            simp only [List.length_append, List.length_cons, List.length_nil, list_size_] at hsz
            have fz0 : Fits (O1) (⟨#[99, 97, 108, 108, 32]⟩ : ByteArray) := by unfold Fits; have c1 : (⟨#[99, 97, 108, 108, 32]⟩ : ByteArray).size = 5 := rfl; have c3 : (⟨#[59, 10]⟩ : ByteArray).size = 2 := rfl; omega
            have fz1 : Fits (O1 ++ (⟨#[99, 97, 108, 108, 32]⟩ : ByteArray)) x.nm := by unfold Fits; simp only [ByteArray.size_append]; have c1 : (⟨#[99, 97, 108, 108, 32]⟩ : ByteArray).size = 5 := rfl; have c3 : (⟨#[59, 10]⟩ : ByteArray).size = 2 := rfl; omega
            have fz2 : Fits (O1 ++ (⟨#[99, 97, 108, 108, 32]⟩ : ByteArray) ++ x.nm) (⟨#[59, 10]⟩ : ByteArray) := by unfold Fits; simp only [ByteArray.size_append]; have c1 : (⟨#[99, 97, 108, 108, 32]⟩ : ByteArray).size = 5 := rfl; have c3 : (⟨#[59, 10]⟩ : ByteArray).size = 2 := rfl; omega
            have HX2 := Lib.hid hx2
            clear hx2 hsz 
            try clear hxe
            go_wp2_with fail
            go_meet
            exact ⟨_, rfl, Lib.hid (by rw [HLn.out, HX2.out]; simp [HO1.out]), HQ.out _ D0.out⟩
          · have hxe : x.e = [] := List.length_eq_zero_iff.1 HNe.out
            have HTX : Hid (textS Lib.itoa x d = stmtF ⟨#[115, 107, 105, 112]⟩ x.nm (tL x.e) (textB Lib.itoa x.A (d + 1)) (textB Lib.itoa x.B (d + 1)) nb d) := Lib.hid (by rw [textS_X, HOp.out, HNb.out])
            have hx2 := HTX.out
            rw [stm_skip] at hx2
            have hsz := congrArg List.length hx2
            simp only [List.length_append, List.length_cons, List.length_nil] at hsz
            have fz0 : Fits (O1) (⟨#[115, 107, 105, 112, 59, 10]⟩ : ByteArray) := by unfold Fits; have c1 : (⟨#[115, 107, 105, 112, 59, 10]⟩ : ByteArray).size = 6 := rfl; omega
            have HX2 := Lib.hid hx2
            clear hx2 hsz 
            try clear hxe
            go_wp2_with fail
            go_meet
            exact ⟨_, rfl, Lib.hid (by rw [HLn.out, HX2.out]; simp [HO1.out]), HQ.out _ D0.out⟩
        case rest =>
          obtain ⟨O2, rfl, HO2, hb2⟩ := hcut
          have HQ2 := Lib.hid hb2
          clear hb2 y0 y1 y2 y3 y4 y5
          go_wp2_with fail
          go_roundw
          case rel => exact ⟨k + 1, O2, rfl, by go_num, hlt, HO2, HQ2.out⟩
          case measure => simp [RowKit.intOf]; omega
      · have he : k = m := by omega
        subst he
        have HZ : Hid (O.data.toList = textB Lib.itoa l d) := Lib.hid (by rw [HO.out, ← HM.out, List.take_length])
        go_wp2_with fail
        go_ret
        exact ⟨ret_str (by rw [HZ.out]), HBw.out⟩
end
end Go.Proofs.YteaongdlbleehaaGreatDoor

/- The tree layer: the document's Print: a program as it writes it. -/
namespace Go.Proofs.YteaongdlbleehaaGreatDoor
open Go.RowKit
attribute [local go_sem ↓] cat_ok
theorem inter_snoc (s x : Bs) (r : List Bs) : List.intercalate s (r ++ [x]) = if r = [] then x else List.intercalate s r ++ s ++ x := by
  induction r with
  | nil => simp [List.intercalate]
  | cons y r ih =>
    rw [if_neg (by simp)]
    cases r with
    | nil => simp [List.intercalate]
    | cons z r =>
      rw [if_neg (by simp)] at ih
      simp only [List.intercalate, List.cons_append, List.intersperse_cons_cons, List.flatten_cons] at ih ⊢
      rw [ih]
      simp
theorem inter_le (s : Bs) (r t : List Bs) : (List.intercalate s r).length ≤ (List.intercalate s (r ++ t)).length := by
  induction t generalizing r with
  | nil => simp
  | cons x t ih =>
    have h := ih (r ++ [x])
    rw [List.append_assoc, List.singleton_append] at h
    refine Nat.le_trans ?_ h
    rw [inter_snoc]
    split
    · rename_i e; subst e; simp [List.intercalate]
    · simp only [List.length_append]; omega
/-- Names, with a comma between two. -/
def namesF (l : List ByteArray) : Bs := List.intercalate [44, 32] (l.map (·.data.toList))
theorem names_zero {l : List ByteArray} {s : ByteArray} (h : l[0]? = some s) : namesF (l.take 1) = s.data.toList := by
  rw [show (1 : Nat) = 0 + 1 from rfl, take_one h]
  simp [namesF, List.intercalate]
theorem names_more {l : List ByteArray} {j : Nat} {s : ByteArray} (h : l[j]? = some s) (hj : 0 < j) : namesF (l.take (j + 1)) = namesF (l.take j) ++ [44, 32] ++ s.data.toList := by
  rw [take_one h]
  unfold namesF
  rw [List.map_append, List.map_cons, List.map_nil, inter_snoc, if_neg]
  intro e
  have e2 := congrArg List.length e
  have := (List.getElem?_eq_some_iff.1 h).1
  rw [List.length_map, List.length_take, List.length_nil] at e2
  omega
theorem names_le (l : List ByteArray) (j : Nat) : (namesF (l.take j)).length ≤ (namesF l).length := by
  have h := inter_le [44, 32] ((l.take j).map (·.data.toList)) ((l.drop j).map (·.data.toList))
  rw [← List.map_append, List.take_append_drop] at h
  exact h
theorem enum_X (x : ByteArray × List ByteArray) : enumF x = [101, 110, 117, 109, 32] ++ x.1.data.toList ++ [32, 123, 32] ++ namesF x.2 ++ [32, 125, 10] := rfl
section
set_option maxRecDepth 100000 in
set_option maxHeartbeats 25600000 in
theorem rprint_any (n : Nat) (p : Pg) (vE vV vP vM : Value) (P : Nat → Prop) (W : World) (h : PgR P n W p vE vV vP vM) (hP : ∀ b, P b → b < W.heap.size) (hw : wholeP p = true) (hlen : (printF Lib.itoa p).length ≤ 140737488355328) :
    Calls Tryz.prog 10 #[pgV vE vV vP vM] W fun e w' => e = .returned (.string ⟨(printF Lib.itoa p).toArray⟩) ∧ Below W.heap.size W w' := by
  obtain ⟨A1, c1, rfl, hc1, hl1, hat1⟩ := h.en
  obtain ⟨A2, c2, rfl, hc2, hl2, hat2⟩ := h.va
  obtain ⟨A3, c3, rfl, hc3, hl3, hat3⟩ := h.pr
  obtain ⟨A4, c4, rfl, -, -⟩ := h.mn.slice
  have HM4 := Lib.hid h.mn
  have HAt1 := Lib.hid hat1
  have HAt2 := Lib.hid hat2
  have HAt3 := Lib.hid hat3
  have hz1 : p.enums.length ≤ 35184372088832 := by omega
  have hz2 : p.vars.length ≤ 35184372088832 := by omega
  have hz3 : p.procs.length ≤ 35184372088832 := by omega
  clear hat1 hat2 hat3 hl1 hl2 hl3 h
  have HPF : Hid (printF Lib.itoa p = p.enums.flatMap enumF ++ p.vars.flatMap (varF Lib.itoa) ++ p.procs.flatMap (procF Lib.itoa) ++ [109, 97, 105, 110] ++ blockF 0 (textB Lib.itoa p.main 1) ++ [10]) := Lib.hid rfl
  have hl := congrArg List.length HPF.out
  simp only [List.length_append, List.length_cons, List.length_nil, block_len] at hl
  have HL := Lib.hid hl
  have HLen := Lib.hid hlen
  have hwp := hw
  unfold wholeP at hwp
  simp only [Bool.and_eq_true] at hwp
  have HWm := Lib.hid hwp.2
  have HWp := Lib.hid (List.all_eq_true.1 hwp.1)
  clear hwp hw hl hlen
  obtain ⟨n1, hn1⟩ : ∃ q, p.enums.length = q := ⟨_, rfl⟩
  obtain ⟨n2, hn2⟩ : ∃ q, p.vars.length = q := ⟨_, rfl⟩
  obtain ⟨n3, hn3⟩ : ∃ q, p.procs.length = q := ⟨_, rfl⟩
  have HN1 := Lib.hid hn1
  have HN2 := Lib.hid hn2
  have HN3 := Lib.hid hn3
  rw [hn1] at hz1 hc1 ⊢
  rw [hn2] at hz2 hc2 ⊢
  rw [hn3] at hz3 hc3 ⊢
  clear hn1 hn2 hn3
  obtain ⟨W0, hW0⟩ : ∃ W0, W0 = W.alloc (.cells #[.slice A1 n1 c1, .slice A2 n2 c2, .slice A3 n3 c3, .slice A4 p.main.length c4] 38) := ⟨_, rfl⟩
  have B0 : Hid (Below W.heap.size W W0) := Lib.hid (by rw [hW0]; exact (Below.refl _ _).alloc (Nat.le_refl _) _)
  have HK : Hid (Blk W0 W.heap.size 38 #[.slice A1 n1 c1, .slice A2 n2 c2, .slice A3 n3 c3, .slice A4 p.main.length c4]) := Lib.hid (by rw [hW0]; exact Blk.new W _ _)
  have HSB : Hid (∀ w', Below W0.heap.size W0 w' → w'.cell? ⟨W.heap.size, 0, none⟩ = some (.slice A1 n1 c1) ∧ w'.cell? ⟨W.heap.size, 1, none⟩ = some (.slice A2 n2 c2) ∧ w'.cell? ⟨W.heap.size, 2, none⟩ = some (.slice A3 n3 c3) ∧ w'.cell? ⟨W.heap.size, 3, none⟩ = some (.slice A4 p.main.length c4)) := Lib.hid fun w' hb => ⟨(HK.out.below hb HK.out.lt).cell 0, (HK.out.below hb HK.out.lt).cell 1, (HK.out.below hb HK.out.lt).cell 2, (HK.out.below hb HK.out.lt).cell 3⟩
  have HW0 := Lib.hid hW0
  clear hW0
  have HBk : Hid (∀ (l : List St) (v : Value) (w' : World), Below W0.heap.size W0 w' → StR P n W l v → wholeB l = true → (textB Lib.itoa l 1).length ≤ 140737488355328 → Calls Tryz.prog 25 #[v, .string ⟨#[32, 32]⟩] w' (fun e w2 => e = .returned (.string ⟨(textB Lib.itoa l 1).toArray⟩) ∧ Below w'.heap.size w' w2)) := Lib.hid fun l v w' hb h1 h2 h3 =>
    rblock_any n P l v 1 ⟨#[32, 32]⟩ w' (h1.below (thru B0.out hb) hP) (lo_up hP (thru B0.out hb).size) h2 rfl (by omega) h3
  go_enter Tryz.func10, Tryz.ntmps10
  go_upto_region 1 with fail
  rw [← HW0.out]
  go_wp2_with fail
  go_loopw [3, 4] (fun s i wr => ∃ (k : Nat) (O : ByteArray), s = .string O ∧ i = .int .i64 (k : Int) ∧ k ≤ n1 ∧ Hid (O.data.toList = (p.enums.take k).flatMap enumF) ∧ Below W0.heap.size W0 wr) (fun _ i _ => n1 - (RowKit.intOf i).toNat)
  case atStart => exact ⟨0, ⟨#[]⟩, rfl, rfl, Nat.zero_le _, Lib.hid (by rw [List.take_zero]; rfl), Below.refl _ _⟩
  case round =>
    obtain ⟨k, O, rfl, rfl, hk, HO, hbw⟩ := hrel
    have HBw := Lib.hid hbw
    clear hbw
    obtain ⟨z0, z1, z2, z3⟩ := HSB.out _ HBw.out
    by_cases hlt : k < n1
    · obtain ⟨x, hx⟩ : ∃ x, p.enums[k]? = some x := ⟨p.enums[k]'(by rw [HN1.out]; exact hlt), List.getElem?_eq_getElem _⟩
      obtain ⟨b, off, L, rfl, hbB, hcc, hstr⟩ := HAt1.out k x hx
      have HCC := Lib.hid hcc
      obtain ⟨x0, x1⟩ := keep2 hcc ((thru B0.out HBw.out).block b (hP b hbB))
      obtain ⟨AL, cL, rfl, hcl, hll, hstr2⟩ := hstr
      have HStr := Lib.hid hstr2
      have hll2 : x.2.length ≤ 8796093022208 := by omega
      have HFx : Hid ((p.enums.take (k + 1)).flatMap enumF = (p.enums.take k).flatMap enumF ++ enumF x) := Lib.hid (flatMap_take enumF hx)
      have hle := flatMap_le enumF hx
      rw [enum_X] at hle
      simp only [List.length_append, List.length_cons, List.length_nil, list_size_] at hle
      rw [← HO.out, list_size_] at hle
      have hle2 : O.size + (5 + x.1.size + 3 + (namesF x.2).length + 3) ≤ 140737488355328 := by have := HL.out; have := HLen.out; omega
      clear hle hll
      obtain ⟨nl, hnl⟩ : ∃ q, x.2.length = q := ⟨_, rfl⟩
      have HNl := Lib.hid hnl
      rw [hnl] at x1 hcl hll2
      have fz1 : Fits (O) (⟨#[101, 110, 117, 109, 32]⟩ : ByteArray) := by unfold Fits; have c1 : (⟨#[101, 110, 117, 109, 32]⟩ : ByteArray).size = 5 := rfl; have c3 : (⟨#[32, 123, 32]⟩ : ByteArray).size = 3 := rfl; omega
      have fz2 : Fits (O ++ (⟨#[101, 110, 117, 109, 32]⟩ : ByteArray)) x.1 := by unfold Fits; simp only [ByteArray.size_append]; have c1 : (⟨#[101, 110, 117, 109, 32]⟩ : ByteArray).size = 5 := rfl; have c3 : (⟨#[32, 123, 32]⟩ : ByteArray).size = 3 := rfl; omega
      have fz3 : Fits (O ++ (⟨#[101, 110, 117, 109, 32]⟩ : ByteArray) ++ x.1) (⟨#[32, 123, 32]⟩ : ByteArray) := by unfold Fits; simp only [ByteArray.size_append]; have c1 : (⟨#[101, 110, 117, 109, 32]⟩ : ByteArray).size = 5 := rfl; have c3 : (⟨#[32, 123, 32]⟩ : ByteArray).size = 3 := rfl; omega
      have HLe := Lib.hid hle2
      obtain ⟨O1, hO1⟩ : ∃ q, O ++ (⟨#[101, 110, 117, 109, 32]⟩ : ByteArray) ++ x.1 ++ (⟨#[32, 123, 32]⟩ : ByteArray) = q := ⟨_, rfl⟩
      have HO1 : Hid (O1.data.toList = (p.enums.take k).flatMap enumF ++ ([101, 110, 117, 109, 32] ++ x.1.data.toList ++ [32, 123, 32])) := Lib.hid (by rw [← hO1, ← HO.out]; simp)
      have HS1 : Hid (O1.size = O.size + 5 + x.1.size + 3) := Lib.hid (by rw [← hO1]; simp only [ByteArray.size_append]; rfl)
      have HEq := Lib.hid hO1
      clear hcc hstr2 hx hnl hle2 hO1
      go_upto_region 6 with fail
      rw [HEq.out]
      go_wp2_with fail
      clear x0 x1 z0 z1 z2 z3
      go_loopw [3, 5] (fun s i wr => ∃ (j : Nat) (O2 : ByteArray), s = .string O2 ∧ i = .int .i64 (j : Int) ∧ j ≤ nl ∧ Hid (O2.data.toList = O1.data.toList ++ namesF (x.2.take j)) ∧ Below W0.heap.size W0 wr) (fun _ i _ => nl - (RowKit.intOf i).toNat)
      case atStart => exact ⟨0, O1, rfl, rfl, Nat.zero_le _, Lib.hid (by rw [List.take_zero]; simp [namesF, List.intercalate]), HBw.out⟩
      case round =>
        obtain ⟨j, O2, rfl, rfl, hj, HO2, hbj⟩ := hrel
        have HBj := Lib.hid hbj
        clear hbj
        obtain ⟨z0, z1, z2, z3⟩ := HSB.out _ HBj.out
        obtain ⟨x0, x1⟩ := keep2 HCC.out ((thru B0.out HBj.out).block b (hP b hbB))
        rw [HNl.out] at x1
        have hsz2 : O2.size = O1.size + (namesF (x.2.take j)).length := by rw [← list_size_, HO2.out, List.length_append, list_size_]
        have hs1 := HS1.out
        have hle := HLe.out
        by_cases hjl : j < nl
        · obtain ⟨s, hs⟩ : ∃ s, x.2[j]? = some s := ⟨x.2[j]'(by rw [HNl.out]; exact hjl), List.getElem?_eq_getElem _⟩
          obtain ⟨b5, o5, rfl, hb5, hc5⟩ := HStr.out j s hs
          have x5 := (World.cell?_of_block (a := ⟨b5, o5 + j, none⟩) ((thru B0.out HBj.out).block b5 (hP b5 hb5))).trans hc5
          have hle3 := names_le x.2 (j + 1)
          by_cases hj0 : 0 < j
          · have g0 : decide ((0 : Int) < (j : Int)) = true := by simp; omega
            have hnm := names_more hs hj0
            rw [hnm] at hle3
            simp only [List.length_append, List.length_cons, List.length_nil, list_size_] at hle3
            have HNm := Lib.hid hnm
            have fz4 : Fits (O2) (⟨#[44, 32]⟩ : ByteArray) := by unfold Fits; have c1 : (⟨#[44, 32]⟩ : ByteArray).size = 2 := rfl; omega
            have fz5 : Fits (O2 ++ (⟨#[44, 32]⟩ : ByteArray)) s := by unfold Fits; simp only [ByteArray.size_append]; have c1 : (⟨#[44, 32]⟩ : ByteArray).size = 2 := rfl; omega
            clear hnm hle3 hle hs1 hsz2 hc5 hs
            go_wp2_with fail
            go_roundw
            case rel => exact ⟨j + 1, _, rfl, by go_num, hjl, Lib.hid (by rw [HNm.out]; simp [HO2.out]), HBj.out⟩
            case measure => simp [RowKit.intOf]; omega
          · have g0 : decide ((0 : Int) < (j : Int)) = false := by simp; omega
            have hj00 : j = 0 := by omega
            have HNm : Hid (namesF (x.2.take (j + 1)) = s.data.toList) := Lib.hid (by rw [hj00] at hs ⊢; exact names_zero hs)
            have HN0 : Hid (namesF (x.2.take j) = []) := Lib.hid (by rw [hj00]; rfl)
            rw [HNm.out, list_size_] at hle3
            rw [HN0.out, List.length_nil] at hsz2
            have fz6 : Fits (O2) s := by unfold Fits; omega
            clear hle3 hle hs1 hsz2 hc5 hs hj00
            go_wp2_with fail
            go_roundw
            case rel => exact ⟨j + 1, _, rfl, by go_num, hjl, Lib.hid (by rw [HNm.out]; simp [HO2.out, HN0.out]), HBj.out⟩
            case measure => simp [RowKit.intOf]; omega
        · have he : j = nl := by omega
          subst he
          have hT : x.2.take j = x.2 := by rw [← HNl.out, List.take_length]
          rw [hT] at HO2 hsz2
          clear hT
          have fz7 : Fits (O2) (⟨#[32, 125, 10]⟩ : ByteArray) := by unfold Fits; have c1 : (⟨#[32, 125, 10]⟩ : ByteArray).size = 3 := rfl; omega
          clear hle hs1 hsz2
          go_wp2_with fail
          go_roundw
          case rel => exact ⟨k + 1, _, rfl, by go_num, hlt, Lib.hid (by rw [HFx.out, enum_X]; simp [HO2.out, HO1.out]), HBj.out⟩
          case measure => simp [RowKit.intOf]; omega
    · have he : k = n1 := by omega
      subst he
      have hT : p.enums.take k = p.enums := by rw [← HN1.out, List.take_length]
      rw [hT] at HO
      clear hT
      go_wp2_with fail
      clear z0 z1 z2 z3
      obtain ⟨OE, rfl⟩ : ∃ q, q = O := ⟨_, rfl⟩
      have HOe := Lib.hid HO.out
      clear HO
      go_loopw [3, 6] (fun s i wr => ∃ (k2 : Nat) (O2 : ByteArray), s = .string O2 ∧ i = .int .i64 (k2 : Int) ∧ k2 ≤ n2 ∧ Hid (O2.data.toList = OE.data.toList ++ (p.vars.take k2).flatMap (varF Lib.itoa)) ∧ Below W0.heap.size W0 wr) (fun _ i _ => n2 - (RowKit.intOf i).toNat)
      case atStart => exact ⟨0, OE, rfl, rfl, Nat.zero_le _, Lib.hid (by rw [List.take_zero]; simp), HBw.out⟩
      case round =>
        clear HBw
        obtain ⟨k2, O, rfl, rfl, hk2, HO, hbw⟩ := hrel
        have HBw := Lib.hid hbw
        clear hbw
        obtain ⟨z0, z1, z2, z3⟩ := HSB.out _ HBw.out
        by_cases hlt2 : k2 < n2
        · obtain ⟨x, hx⟩ : ∃ x, p.vars[k2]? = some x := ⟨p.vars[k2]'(by rw [HN2.out]; exact hlt2), List.getElem?_eq_getElem _⟩
          obtain ⟨b, off, rfl, hbB, hcc, hin⟩ := HAt2.out k2 x hx
          obtain ⟨x0, x1, x2⟩ := keep3 hcc ((thru B0.out HBw.out).block b (hP b hbB))
          have K0 : Hid (wr.drew.cell? ⟨W.heap.size, 1, none⟩ = some (.slice (some ⟨b, off, none⟩) n2 c2) ∧ wr.drew.cell? ⟨b, off + k2 * 3, none⟩ = some (.string x.1) ∧ wr.drew.cell? ⟨b, off + k2 * 3 + 1, none⟩ = some (.string x.2.1) ∧ wr.drew.cell? ⟨b, off + k2 * 3 + 2, none⟩ = some (.int .i64 x.2.2)) := Lib.hid ⟨(HSB.out _ (thru HBw.out (Below.refl _ _).drew)).2.1, x0, x1, x2⟩
          have HFx : Hid ((p.vars.take (k2 + 1)).flatMap (varF Lib.itoa) = (p.vars.take k2).flatMap (varF Lib.itoa) ++ varF Lib.itoa x) := Lib.hid (flatMap_take _ hx)
          have hle := flatMap_le (varF Lib.itoa) hx
          have hO2 := congrArg List.length HO.out
          rw [List.length_append, list_size_, list_size_] at hO2
          have hOe := congrArg List.length HOe.out
          rw [list_size_] at hOe
          have hle2 : O.size + (varF Lib.itoa x).length ≤ 140737488355328 := by have := HL.out; have := HLen.out; omega
          have HVX : Hid (varF Lib.itoa x = [118, 97, 114, 32] ++ x.1.data.toList ++ [58, 32] ++ x.2.1.data.toList ++ (if 0 < x.2.2 then [91] ++ Lib.itoa x.2.2 ++ [93] else []) ++ [59, 10]) := Lib.hid rfl
          rw [HVX.out] at hle2
          simp only [List.length_append, List.length_cons, List.length_nil, list_size_] at hle2
          have fz8 : Fits (O) (⟨#[118, 97, 114, 32]⟩ : ByteArray) := by unfold Fits; have c1 : (⟨#[118, 97, 114, 32]⟩ : ByteArray).size = 4 := rfl; have c3 : (⟨#[58, 32]⟩ : ByteArray).size = 2 := rfl; omega
          have fz9 : Fits (O ++ (⟨#[118, 97, 114, 32]⟩ : ByteArray)) x.1 := by unfold Fits; simp only [ByteArray.size_append]; have c1 : (⟨#[118, 97, 114, 32]⟩ : ByteArray).size = 4 := rfl; have c3 : (⟨#[58, 32]⟩ : ByteArray).size = 2 := rfl; omega
          have fz10 : Fits (O ++ (⟨#[118, 97, 114, 32]⟩ : ByteArray) ++ x.1) (⟨#[58, 32]⟩ : ByteArray) := by unfold Fits; simp only [ByteArray.size_append]; have c1 : (⟨#[118, 97, 114, 32]⟩ : ByteArray).size = 4 := rfl; have c3 : (⟨#[58, 32]⟩ : ByteArray).size = 2 := rfl; omega
          have fz11 : Fits (O ++ (⟨#[118, 97, 114, 32]⟩ : ByteArray) ++ x.1 ++ (⟨#[58, 32]⟩ : ByteArray)) x.2.1 := by unfold Fits; simp only [ByteArray.size_append]; have c1 : (⟨#[118, 97, 114, 32]⟩ : ByteArray).size = 4 := rfl; have c3 : (⟨#[58, 32]⟩ : ByteArray).size = 2 := rfl; omega
          obtain ⟨Q, hQ⟩ : ∃ q, O ++ (⟨#[118, 97, 114, 32]⟩ : ByteArray) ++ x.1 ++ (⟨#[58, 32]⟩ : ByteArray) ++ x.2.1 = q := ⟨_, rfl⟩
          have HQd : Hid (Q.data.toList = O.data.toList ++ ([118, 97, 114, 32] ++ x.1.data.toList ++ [58, 32] ++ x.2.1.data.toList)) := Lib.hid (by rw [← hQ]; simp)
          have hQs : Q.size = O.size + 4 + x.1.size + 2 + x.2.1.size := by rw [← hQ]; simp only [ByteArray.size_append]; rfl
          have HQe := Lib.hid hQ
          have HIn := Lib.hid hin
          clear hQ hle hO2 hOe hx hin hcc
          have BD : Hid (Below W0.heap.size W0 wr.drew) := Lib.hid (thru HBw.out (Below.refl _ _).drew)
          obtain ⟨q0, q1, q2, q3⟩ := HSB.out _ BD.out
          by_cases hv : 0 < x.2.2
          · rw [if_pos hv] at hle2
            simp only [List.length_append, List.length_cons, List.length_nil] at hle2
            have HVY : Hid (varF Lib.itoa x = [118, 97, 114, 32] ++ x.1.data.toList ++ [58, 32] ++ x.2.1.data.toList ++ ([91] ++ Lib.itoa x.2.2 ++ [93]) ++ [59, 10]) := Lib.hid (by rw [HVX.out, if_pos hv])
            obtain ⟨DG, hDG⟩ : ∃ T : ByteArray, T = ⟨(Lib.itoa x.2.2).toArray⟩ := ⟨_, rfl⟩
            have HDd : Hid (DG.data.toList = Lib.itoa x.2.2) := Lib.hid (by rw [hDG])
            have hds : DG.size = (Lib.itoa x.2.2).length := by rw [← list_size_, HDd.out]
            have HDi : Hid (∀ w, Calls Tryz.prog 24 #[.int .i64 x.2.2] w fun e w' => e = .returned (.string DG) ∧ w = w') := Lib.hid fun w => by rw [hDG]; exact rdigits_any x.2.2 w (by omega) HIn.out.2
            have fz12 : Fits (Q) (⟨#[91]⟩ : ByteArray) := by unfold Fits; have c1 : (⟨#[91]⟩ : ByteArray).size = 1 := rfl; have c3 : (⟨#[93]⟩ : ByteArray).size = 1 := rfl; have c4 : (⟨#[59, 10]⟩ : ByteArray).size = 2 := rfl; omega
            have fz13 : Fits (Q ++ (⟨#[91]⟩ : ByteArray)) DG := by unfold Fits; simp only [ByteArray.size_append]; have c1 : (⟨#[91]⟩ : ByteArray).size = 1 := rfl; have c3 : (⟨#[93]⟩ : ByteArray).size = 1 := rfl; have c4 : (⟨#[59, 10]⟩ : ByteArray).size = 2 := rfl; omega
            have fz14 : Fits (Q ++ (⟨#[91]⟩ : ByteArray) ++ DG) (⟨#[93]⟩ : ByteArray) := by unfold Fits; simp only [ByteArray.size_append]; have c1 : (⟨#[91]⟩ : ByteArray).size = 1 := rfl; have c3 : (⟨#[93]⟩ : ByteArray).size = 1 := rfl; have c4 : (⟨#[59, 10]⟩ : ByteArray).size = 2 := rfl; omega
            have fz15 : Fits (Q ++ (⟨#[91]⟩ : ByteArray) ++ DG ++ (⟨#[93]⟩ : ByteArray)) (⟨#[59, 10]⟩ : ByteArray) := by unfold Fits; simp only [ByteArray.size_append]; have c1 : (⟨#[91]⟩ : ByteArray).size = 1 := rfl; have c3 : (⟨#[93]⟩ : ByteArray).size = 1 := rfl; have c4 : (⟨#[59, 10]⟩ : ByteArray).size = 2 := rfl; omega
            clear hDG hds hQs hle2
            go_upto_region 16 with fail
            go_region_held3 (fun w' => w'.cell? ⟨W.heap.size, 1, none⟩ = some (.slice (some ⟨b, off, none⟩) n2 c2) ∧ w'.cell? ⟨b, off + k2 * 3, none⟩ = some (.string x.1) ∧ w'.cell? ⟨b, off + k2 * 3 + 1, none⟩ = some (.string x.2.1) ∧ w'.cell? ⟨b, off + k2 * 3 + 2, none⟩ = some (.int .i64 x.2.2)) (first | (with_reducible exact K0.out)) (first | (fail))
            all_goals go_upto_region 17 with fail
            all_goals rw [HQe.out]
            all_goals go_wp2_with (go_at_call 24; (with_reducible refine (HDi.out _).mono ?_); rintro e w7 ⟨rfl, rfl⟩)
            all_goals go_roundw
            case rel => exact ⟨k2 + 1, _, rfl, by go_num, hlt2, Lib.hid (by rw [HFx.out, HVY.out]; simp [HQd.out, HO.out, HDd.out]), BD.out⟩
            case measure => simp [RowKit.intOf]; omega
          · rw [if_neg hv] at hle2
            have HVY : Hid (varF Lib.itoa x = [118, 97, 114, 32] ++ x.1.data.toList ++ [58, 32] ++ x.2.1.data.toList ++ [] ++ [59, 10]) := Lib.hid (by rw [HVX.out, if_neg hv])
            have fz16 : Fits (Q) (⟨#[59, 10]⟩ : ByteArray) := by unfold Fits; have c1 : (⟨#[59, 10]⟩ : ByteArray).size = 2 := rfl; omega
            clear hQs hle2
            go_upto_region 16 with fail
            go_region_held3 (fun w' => w'.cell? ⟨W.heap.size, 1, none⟩ = some (.slice (some ⟨b, off, none⟩) n2 c2) ∧ w'.cell? ⟨b, off + k2 * 3, none⟩ = some (.string x.1) ∧ w'.cell? ⟨b, off + k2 * 3 + 1, none⟩ = some (.string x.2.1) ∧ w'.cell? ⟨b, off + k2 * 3 + 2, none⟩ = some (.int .i64 x.2.2)) (first | (with_reducible exact K0.out)) (first | (fail))
            all_goals go_upto_region 17 with fail
            all_goals rw [HQe.out]
            all_goals go_wp2_with fail
            all_goals go_roundw
            case rel => exact ⟨k2 + 1, _, rfl, by go_num, hlt2, Lib.hid (by rw [HFx.out, HVY.out]; simp [HQd.out, HO.out]), BD.out⟩
            case measure => simp [RowKit.intOf]; omega
        · have he : k2 = n2 := by omega
          subst he
          have hT : p.vars.take k2 = p.vars := by rw [← HN2.out, List.take_length]
          rw [hT] at HO
          clear hT
          go_wp2_with fail
          clear z0 z1 z2 z3
          have HOv : Hid (O.data.toList = p.enums.flatMap enumF ++ p.vars.flatMap (varF Lib.itoa)) := Lib.hid (by rw [HO.out, HOe.out])
          clear HO HOe
          obtain ⟨OV, rfl⟩ : ∃ q, q = O := ⟨_, rfl⟩
          go_loopw [3, 7] (fun s i wr => ∃ (k3 : Nat) (O2 : ByteArray), s = .string O2 ∧ i = .int .i64 (k3 : Int) ∧ k3 ≤ n3 ∧ Hid (O2.data.toList = OV.data.toList ++ (p.procs.take k3).flatMap (procF Lib.itoa)) ∧ Below W0.heap.size W0 wr) (fun _ i _ => n3 - (RowKit.intOf i).toNat)
          case atStart => exact ⟨0, OV, rfl, rfl, Nat.zero_le _, Lib.hid (by rw [List.take_zero]; simp), HBw.out⟩
          case round =>
            clear HBw
            obtain ⟨k3, O, rfl, rfl, hk3, HO, hbw⟩ := hrel
            have HBw := Lib.hid hbw
            clear hbw
            obtain ⟨z0, z1, z2, z3⟩ := HSB.out _ HBw.out
            have hOs : O.size = OV.size + ((p.procs.take k3).flatMap (procF Lib.itoa)).length := by rw [← list_size_, HO.out, List.length_append, list_size_]
            have hVs : OV.size = (p.enums.flatMap enumF).length + (p.vars.flatMap (varF Lib.itoa)).length := by rw [← list_size_, HOv.out, List.length_append]
            by_cases hlt3 : k3 < n3
            · obtain ⟨x, hx⟩ : ∃ x, p.procs[k3]? = some x := ⟨p.procs[k3]'(by rw [HN3.out]; exact hlt3), List.getElem?_eq_getElem _⟩
              obtain ⟨b, off, L, rfl, hbB, hcc, hstr⟩ := HAt3.out k3 x hx
              obtain ⟨AL, cL, rfl, -, -⟩ := hstr.slice
              have HSV : Hid (∀ w', Below W0.heap.size W0 w' → w'.cell? ⟨W.heap.size, 2, none⟩ = some (.slice (some ⟨b, off, none⟩) n3 c3) ∧ w'.cell? ⟨b, off + k3 * 2, none⟩ = some (.string x.1) ∧ w'.cell? ⟨b, off + k3 * 2 + 1, none⟩ = some (.slice AL x.2.length cL)) := Lib.hid fun w' hb => ⟨(HSB.out _ hb).2.2.1, keep2 hcc ((thru B0.out hb).block b (hP b hbB))⟩
              have BD : Hid (Below W0.heap.size W0 wr.drew) := Lib.hid (thru HBw.out (Below.refl _ _).drew)
              have K0 := Lib.hid (HSV.out _ BD.out)
              have HFx : Hid ((p.procs.take (k3 + 1)).flatMap (procF Lib.itoa) = (p.procs.take k3).flatMap (procF Lib.itoa) ++ procF Lib.itoa x) := Lib.hid (flatMap_take _ hx)
              have hle := flatMap_le (procF Lib.itoa) hx
              have HPX : Hid (procF Lib.itoa x = [112, 114, 111, 99, 32] ++ x.1.data.toList ++ ([32, 123, 10] ++ textB Lib.itoa x.2 1 ++ ind 0 ++ [125]) ++ [10]) := Lib.hid rfl
              rw [HPX.out] at hle
              simp only [List.length_append, List.length_cons, List.length_nil, list_size_] at hle
              obtain ⟨RB, hRB⟩ : ∃ T : ByteArray, T = ⟨(textB Lib.itoa x.2 1).toArray⟩ := ⟨_, rfl⟩
              have HRd : Hid (RB.data.toList = textB Lib.itoa x.2 1) := Lib.hid (by rw [hRB])
              have hrs : RB.size = (textB Lib.itoa x.2 1).length := by rw [← list_size_, HRd.out]
              have hle2 : O.size + 5 + x.1.size + 3 + RB.size + 2 ≤ 140737488355328 := by have := HL.out; have := HLen.out; omega
              have HCx : Hid (∀ w', Below W0.heap.size W0 w' → Calls Tryz.prog 25 #[.slice AL x.2.length cL, .string ⟨#[32, 32]⟩] w' (fun e w2 => e = .returned (.string RB) ∧ Below w'.heap.size w' w2)) := Lib.hid fun w' hb => by
                rw [hRB]
                exact HBk.out x.2 _ w' hb hstr (HWp.out x (List.mem_of_getElem? hx)) (by omega)
              have fz17 : Fits (O) (⟨#[112, 114, 111, 99, 32]⟩ : ByteArray) := by unfold Fits; have c1 : (⟨#[112, 114, 111, 99, 32]⟩ : ByteArray).size = 5 := rfl; have c3 : (⟨#[32, 123, 10]⟩ : ByteArray).size = 3 := rfl; have c5 : (⟨#[125, 10]⟩ : ByteArray).size = 2 := rfl; omega
              have fz18 : Fits (O ++ (⟨#[112, 114, 111, 99, 32]⟩ : ByteArray)) x.1 := by unfold Fits; simp only [ByteArray.size_append]; have c1 : (⟨#[112, 114, 111, 99, 32]⟩ : ByteArray).size = 5 := rfl; have c3 : (⟨#[32, 123, 10]⟩ : ByteArray).size = 3 := rfl; have c5 : (⟨#[125, 10]⟩ : ByteArray).size = 2 := rfl; omega
              have fz19 : Fits (O ++ (⟨#[112, 114, 111, 99, 32]⟩ : ByteArray) ++ x.1) (⟨#[32, 123, 10]⟩ : ByteArray) := by unfold Fits; simp only [ByteArray.size_append]; have c1 : (⟨#[112, 114, 111, 99, 32]⟩ : ByteArray).size = 5 := rfl; have c3 : (⟨#[32, 123, 10]⟩ : ByteArray).size = 3 := rfl; have c5 : (⟨#[125, 10]⟩ : ByteArray).size = 2 := rfl; omega
              have fz20 : Fits (O ++ (⟨#[112, 114, 111, 99, 32]⟩ : ByteArray) ++ x.1 ++ (⟨#[32, 123, 10]⟩ : ByteArray)) RB := by unfold Fits; simp only [ByteArray.size_append]; have c1 : (⟨#[112, 114, 111, 99, 32]⟩ : ByteArray).size = 5 := rfl; have c3 : (⟨#[32, 123, 10]⟩ : ByteArray).size = 3 := rfl; have c5 : (⟨#[125, 10]⟩ : ByteArray).size = 2 := rfl; omega
              have fz21 : Fits (O ++ (⟨#[112, 114, 111, 99, 32]⟩ : ByteArray) ++ x.1 ++ (⟨#[32, 123, 10]⟩ : ByteArray) ++ RB) (⟨#[125, 10]⟩ : ByteArray) := by unfold Fits; simp only [ByteArray.size_append]; have c1 : (⟨#[112, 114, 111, 99, 32]⟩ : ByteArray).size = 5 := rfl; have c3 : (⟨#[32, 123, 10]⟩ : ByteArray).size = 3 := rfl; have c5 : (⟨#[125, 10]⟩ : ByteArray).size = 2 := rfl; omega
              clear hle hrs hle2 hOs hVs hRB hcc hstr hx
              go_upto_region 23 with fail
              go_region_held3 (fun w' => w'.cell? ⟨W.heap.size, 2, none⟩ = some (.slice (some ⟨b, off, none⟩) n3 c3) ∧ w'.cell? ⟨b, off + k3 * 2, none⟩ = some (.string x.1) ∧ w'.cell? ⟨b, off + k3 * 2 + 1, none⟩ = some (.slice AL x.2.length cL)) (first | (with_reducible exact K0.out) | (with_reducible exact K1.out))
                (first
                | (go_at_call 25; have HX := HCx.out _ BD.out; (with_reducible refine HX.mono ?_); clear HX; rintro e w2 ⟨rfl, hb⟩; have B2 := Lib.hid (thru BD.out hb); have K1 := Lib.hid (HSV.out _ B2.out); clear hb))
              all_goals go_wp2_with fail
              all_goals go_roundw
              case rel => exact ⟨k3 + 1, _, rfl, by go_num, hlt3, Lib.hid (by rw [HFx.out, HPX.out]; simp [HO.out, HRd.out, ind]), B2.out⟩
              case measure => simp [RowKit.intOf]; omega
            · have he : k3 = n3 := by omega
              subst he
              have hT : p.procs.take k3 = p.procs := by rw [← HN3.out, List.take_length]
              rw [hT] at HO hOs
              clear hT
              obtain ⟨RM, hRM⟩ : ∃ T : ByteArray, T = ⟨(textB Lib.itoa p.main 1).toArray⟩ := ⟨_, rfl⟩
              have HRd : Hid (RM.data.toList = textB Lib.itoa p.main 1) := Lib.hid (by rw [hRM])
              have hrs : RM.size = (textB Lib.itoa p.main 1).length := by rw [← list_size_, HRd.out]
              have hle2 : O.size + 7 + RM.size + 2 ≤ 140737488355328 := by have := HL.out; have := HLen.out; omega
              have HCx : Hid (∀ w', Below W0.heap.size W0 w' → Calls Tryz.prog 25 #[.slice A4 p.main.length c4, .string ⟨#[32, 32]⟩] w' (fun e w2 => e = .returned (.string RM) ∧ Below w'.heap.size w' w2)) := Lib.hid fun w' hb => by
                rw [hRM]
                exact HBk.out p.main _ w' hb HM4.out HWm.out (by omega)
              have fz22 : Fits (O) (⟨#[109, 97, 105, 110, 32, 123, 10]⟩ : ByteArray) := by unfold Fits; have c1 : (⟨#[109, 97, 105, 110, 32, 123, 10]⟩ : ByteArray).size = 7 := rfl; have c3 : (⟨#[125, 10]⟩ : ByteArray).size = 2 := rfl; omega
              have fz23 : Fits (O ++ (⟨#[109, 97, 105, 110, 32, 123, 10]⟩ : ByteArray)) RM := by unfold Fits; simp only [ByteArray.size_append]; have c1 : (⟨#[109, 97, 105, 110, 32, 123, 10]⟩ : ByteArray).size = 7 := rfl; have c3 : (⟨#[125, 10]⟩ : ByteArray).size = 2 := rfl; omega
              have fz24 : Fits (O ++ (⟨#[109, 97, 105, 110, 32, 123, 10]⟩ : ByteArray) ++ RM) (⟨#[125, 10]⟩ : ByteArray) := by unfold Fits; simp only [ByteArray.size_append]; have c1 : (⟨#[109, 97, 105, 110, 32, 123, 10]⟩ : ByteArray).size = 7 := rfl; have c3 : (⟨#[125, 10]⟩ : ByteArray).size = 2 := rfl; omega
              clear hrs hle2 hOs hVs hRM
              go_wp2_with (go_at_call 25; have HX := HCx.out _ HBw.out; (with_reducible refine HX.mono ?_); clear HX; rintro e w2 ⟨rfl, hb⟩; have B2 := Lib.hid (thru HBw.out hb); clear hb)
              go_ret
              exact ⟨ret_str (by rw [HPF.out]; simp [HO.out, HOv.out, HRd.out, blockF, ind]), thru B0.out B2.out⟩
end
end Go.Proofs.YteaongdlbleehaaGreatDoor
