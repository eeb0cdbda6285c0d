/- The tree layer: the document's block: statements as it writes them. -/
import Derived.Test.YtklfcjimgnnlfaaDoorTrWhB
import Derived.Test.YtklfcjimgnnlfaaDoorTrRefT
import Derived.Test.YtklfcjimgnnlfaaDoorTrBoundB
import Derived.Deep.RegionHeld3
import Derived.Deep.CutBlock
import Derived.Deep.DeepCutAuto
namespace Go.Proofs.YtklfcjimgnnlfaaDoor
open Go.RowKit
theorem stm_set (nm : ByteArray) (ts : List (Bs × Bool)) (ra rb : Bs) (nb d : Nat) : stmtF ⟨#[115, 101, 116]⟩ nm ts ra rb nb d = nm.data.toList ++ [32, 61, 32] ++ part0 ts 0 ++ [59] := by kernel_rfl
theorem stm_put (nm : ByteArray) (ts : List (Bs × Bool)) (ra rb : Bs) (nb d : Nat) : stmtF ⟨#[112, 117, 116]⟩ nm ts ra rb nb d = nm.data.toList ++ [91] ++ part0 ts 0 ++ [93] ++ [32, 61, 32] ++ part0 ts 1 ++ [59] := by kernel_rfl
theorem stm_input (nm : ByteArray) (ts : List (Bs × Bool)) (ra rb : Bs) (nb d : Nat) : stmtF ⟨#[105, 110, 112, 117, 116]⟩ nm ts ra rb nb d = nm.data.toList ++ [32, 61, 32, 105, 110, 112, 117, 116] ++ endsF ts ++ [59] := by kernel_rfl
theorem stm_assert (nm : ByteArray) (ts : List (Bs × Bool)) (ra rb : Bs) (nb d : Nat) : stmtF ⟨#[97, 115, 115, 101, 114, 116]⟩ nm ts ra rb nb d = (⟨#[97, 115, 115, 101, 114, 116]⟩ : ByteArray).data.toList ++ [32] ++ part0 ts 0 ++ [59] := by kernel_rfl
theorem stm_assume (nm : ByteArray) (ts : List (Bs × Bool)) (ra rb : Bs) (nb d : Nat) : stmtF ⟨#[97, 115, 115, 117, 109, 101]⟩ nm ts ra rb nb d = (⟨#[97, 115, 115, 117, 109, 101]⟩ : ByteArray).data.toList ++ [32] ++ part0 ts 0 ++ [59] := by kernel_rfl
theorem stm_call (nm : ByteArray) (ts : List (Bs × Bool)) (ra rb : Bs) (nb d : Nat) : stmtF ⟨#[99, 97, 108, 108]⟩ nm ts ra rb nb d = [99, 97, 108, 108, 32] ++ nm.data.toList ++ [59] := by kernel_rfl
theorem stm_skip (nm : ByteArray) (ts : List (Bs × Bool)) (ra rb : Bs) (nb d : Nat) : stmtF ⟨#[115, 107, 105, 112]⟩ nm ts ra rb nb d = (⟨#[115, 107, 105, 112]⟩ : ByteArray).data.toList ++ [59] := by kernel_rfl
theorem stm_while (nm : ByteArray) (ts : List (Bs × Bool)) (ra rb : Bs) (nb d : Nat) : stmtF ⟨#[119, 104, 105, 108, 101]⟩ nm ts ra rb nb d = (⟨#[119, 104, 105, 108, 101]⟩ : ByteArray).data.toList ++ [32] ++ part0 ts 0 ++ blockF d ra ++ [] := by kernel_rfl
theorem stm_if0 (nm : ByteArray) (ts : List (Bs × Bool)) (ra rb : Bs) (d : Nat) : stmtF ⟨#[105, 102]⟩ nm ts ra rb 0 d = (⟨#[105, 102]⟩ : ByteArray).data.toList ++ [32] ++ part0 ts 0 ++ blockF d ra ++ [] := by kernel_rfl
theorem stm_if1 (nm : ByteArray) (ts : List (Bs × Bool)) (ra rb : Bs) (nb d : Nat) (h : 0 < nb) : stmtF ⟨#[105, 102]⟩ nm ts ra rb nb d = (⟨#[105, 102]⟩ : ByteArray).data.toList ++ [32] ++ part0 ts 0 ++ blockF d ra ++ ([32, 101, 108, 115, 101] ++ blockF d rb) := by
  obtain ⟨nb, rfl⟩ : ∃ q, nb = q + 1 := ⟨nb - 1, by omega⟩
  kernel_rfl
/-- Two texts that may be joined. -/
def Fits (a b : ByteArray) : Prop := a.size + b.size ≤ 9223372036854775807
theorem cat_ok {P : Program} (w : World) (a b : ByteArray) (h : Fits a b) : (Op.stringOp .add a b).run P w = .ok (.string (a ++ b)) w := run_string_add_sum w a b h
attribute [local go_sem ↓] cat_ok
theorem ind_more (d : Nat) : ind d ++ [32, 32] = ind (d + 1) := by
  induction d with
  | zero => rfl
  | succ d ih => show [32, 32] ++ ind d ++ [32, 32] = [32, 32] ++ ind (d + 1); rw [List.append_assoc, ih]
theorem deeper {D : ByteArray} {d : Nat} (h : D.data.toList = ind d) : (D ++ (⟨#[32, 32]⟩ : ByteArray)).data.toList = ind (d + 1) := by
  rw [← ind_more, ← h]; simp
theorem textB_take {l : List St} {k : Nat} {x : St} (h : l[k]? = some x) (d : Nat) : textB Lib.itoa (l.take (k + 1)) d = textB Lib.itoa (l.take k) d ++ (ind d ++ textS Lib.itoa x d ++ [10]) := by
  rw [take_one h]
  generalize l.take k = r
  induction r with
  | nil => simp [textB]
  | cons y r ih => simp only [List.cons_append, textB, ih, List.append_assoc]
theorem textB_le {l : List St} (k d : Nat) : (textB Lib.itoa (l.take k) d).length ≤ (textB Lib.itoa l d).length := by
  have e : l = l.take k ++ l.drop k := (List.take_append_drop k l).symm
  have h : ∀ r s : List St, textB Lib.itoa (r ++ s) d = textB Lib.itoa r d ++ textB Lib.itoa s d := by
    intro r s
    induction r with
    | nil => rfl
    | cons y r ih => simp only [List.cons_append, textB, ih, List.append_assoc]
  have h2 := h (l.take k) (l.drop k)
  rw [List.take_append_drop] at h2
  rw [h2, List.length_append]
  omega
theorem len_two {α : Type} {l : List α} (h : l.length = 2) : ∃ y z, l = [y, z] := by
  match l, h with
  | [y, z], _ => exact ⟨y, z, rfl⟩
def CutB (W1 : World) (F : Bs) (t5 : Value) (wx : World) : Prop := ∃ O : ByteArray, t5 = .string O ∧ Hid (O.data.toList = F) ∧ Below W1.heap.size W1 wx
section
set_option maxRecDepth 100000 in
set_option maxHeartbeats 25600000 in
theorem rblock_any (n : Nat) : ∀ (P : Nat → Prop) (l : List St) (v : Value) (d : Nat) (D : ByteArray) (W : World), StR P n W l v → (∀ b, P b → b < W.heap.size) → wholeB l = true → D.data.toList = ind d → 2 * d ≤ 140737488355330 → (textB Lib.itoa l d).length ≤ 140737488355328 → Calls Tryd.prog 34 #[v, .string D] W (fun e w' => e = .returned (.string ⟨(textB Lib.itoa l d).toArray⟩) ∧ Below W.heap.size W w') := by
  induction n with
  | zero => intro P l v d D W h; exact h.elim
  | succ n ih =>
    intro P l v d D W h hP hwh hD hd hlen
    obtain ⟨A, cap, rfl, hc, hl, hat⟩ := h
    have HAt := Lib.hid hat
    have HIH := Lib.hid ih
    have hl2 : l.length ≤ 2199023255552 := by omega
    have HWh := Lib.hid hwh
    have HLen := Lib.hid hlen
    have HD := Lib.hid hD
    have hDs : D.size = 2 * d := by rw [← list_size_, hD, ind_len]
    clear hat ih hl hwh hlen hD
    obtain ⟨m, hm⟩ : ∃ m, l.length = m := ⟨_, rfl⟩
    have HM := Lib.hid hm
    rw [hm] at hl2 hc ⊢
    clear hm
    have HDs := Lib.hid hDs
    clear hDs
    go_enter Tryd.func34, Tryd.ntmps34
    go_wp2_with fail
    go_loopw [5, 6] (fun s i wr => ∃ (k : Nat) (O : ByteArray), s = .string O ∧ i = .int .i64 (k : Int) ∧ k ≤ m ∧ Hid (O.data.toList = textB Lib.itoa (l.take k) d) ∧ Below W.heap.size W wr) (fun _ i _ => m - (RowKit.intOf i).toNat)
    case atStart => exact ⟨0, ⟨#[]⟩, rfl, rfl, Nat.zero_le _, Lib.hid (by rw [List.take_zero]; rfl), Below.refl _ _⟩
    case round =>
      obtain ⟨k, O, rfl, rfl, hk, HO, hbw⟩ := hrel
      have HBw := Lib.hid hbw
      clear hbw
      by_cases hlt : k < m
      · obtain ⟨x, hx⟩ : ∃ x, l[k]? = some x := ⟨l[k]'(by rw [HM.out]; exact hlt), List.getElem?_eq_getElem _⟩
        obtain ⟨b, off, LE, LA, LB, rfl, hbB, hcell, -, hE, hA, hB'⟩ := HAt.out k x hx
        obtain ⟨y0, y1, y2, y3, y4, y5⟩ := hcell.below HBw.out (hP b hbB)
        obtain ⟨Ae, ce, rfl, -, -⟩ := hE.slice
        obtain ⟨Aa, ca, rfl, -, -⟩ := hA.slice
        obtain ⟨Ab, cb, rfl, -, -⟩ := hB'.slice
        have hws := wholeB_at HWh.out hx
        rw [wholeS_X] at hws
        simp only [Bool.and_eq_true] at hws
        have HLn : Hid (textB Lib.itoa (l.take (k + 1)) d = textB Lib.itoa (l.take k) d ++ (ind d ++ textS Lib.itoa x d ++ [10])) := Lib.hid (textB_take hx d)
        have hle : O.size + 2 * d + (textS Lib.itoa x d).length + 1 ≤ 140737488355328 := by
          have q := congrArg List.length HLn.out
          have q2 := textB_le (l := l) (k + 1) d
          have q3 := HLen.out
          simp only [List.length_append, List.length_cons, List.length_nil, ind_len] at q
          rw [← HO.out, list_size_] at q
          omega
        have HLe := Lib.hid hle
        clear hle
        obtain ⟨op, hop⟩ : ∃ q, x.op = q := ⟨_, rfl⟩
        obtain ⟨ne, hne⟩ : ∃ q, x.e.length = q := ⟨_, rfl⟩
        obtain ⟨na, hna⟩ : ∃ q, x.A.length = q := ⟨_, rfl⟩
        obtain ⟨nb, hnb⟩ : ∃ q, x.B.length = q := ⟨_, rfl⟩
        have HNe := Lib.hid hne
        have HNb := Lib.hid hnb
        have HOp := Lib.hid hop
        rw [hop] at y0 hws
        rw [hne] at y2 hws hE
        rw [hna] at y3 hws hA
        rw [hnb] at y4 hws hB'
        have HHd := Lib.hid hws.1
        have HWe := Lib.hid hws.2.1
        have HWA := Lib.hid hws.2.2.1
        have HWB := Lib.hid hws.2.2.2
        obtain ⟨W1, hW1⟩ : ∃ W1, W1 = wr.alloc (.cells #[.string op, .string x.nm, .slice Ae ne ce, .slice Aa na ca, .slice Ab nb cb, .int .i64 x.a] 72) := ⟨_, rfl⟩
        have HB1 : Hid (Below wr.heap.size wr W1) := Lib.hid (by rw [hW1]; exact (Below.refl _ _).alloc (Nat.le_refl _) _)
        have HK : Hid (Blk W1 wr.heap.size 72 #[.string op, .string x.nm, .slice Ae ne ce, .slice Aa na ca, .slice Ab nb cb, .int .i64 x.a]) := Lib.hid (by rw [hW1]; exact Blk.new wr _ _)
        have HQ : Hid (∀ w2, Below W1.heap.size W1 w2 → Below W.heap.size W w2) := Lib.hid fun w2 hb2 => thru (thru HBw.out HB1.out) hb2
        have HE := Lib.hid hE
        have HSA := Lib.hid hA
        have HSB := Lib.hid hB'
        have HW1 := Lib.hid hW1
        have D0 : Hid (Below W1.heap.size W1 W1) := Lib.hid (Below.refl _ _)
        obtain ⟨O1, hO1⟩ : ∃ q, O ++ D = q := ⟨_, rfl⟩
        have HO1 : Hid (O1.data.toList = textB Lib.itoa (l.take k) d ++ ind d) := Lib.hid (by rw [← hO1, ← HO.out, ← HD.out]; simp)
        have hO1s : O1.size = O.size + D.size := by rw [← hO1, ByteArray.size_append]
        have HO1s := Lib.hid hO1s
        have fo : Fits O D := by unfold Fits; have := HLe.out; have := HDs.out; omega
        have HOe := Lib.hid hO1
        clear hW1 hE hA hB' hx hcell hop hne hna hnb hws hO1 hO1s
        go_upto_block 1 with fail
        go_cut [5] (fun t5 wx => CutB W (textB Lib.itoa (l.take (k + 1)) d) t5 wx)
        case first =>
          go_upto_region 6 with fail
          rw [← HW1.out]
          clear y0 y1 y2 y3 y4 y5
          have z0 := HK.out.cell 0
          have z1 := HK.out.cell 1
          have z2 := HK.out.cell 2
          have z3 := HK.out.cell 3
          have z4 := HK.out.cell 4
          simp at z0 z1 z2 z3 z4
          go_upto_region 7 with fail
          rw [HOe.out]
          clear fo HOe
          have HLe2 : Hid (O1.size + (textS Lib.itoa x d).length + 1 ≤ 140737488355328) := Lib.hid (by rw [HO1s.out, HDs.out]; exact HLe.out)
          have hL := HLe2.out
          have hDs := HDs.out
          have hd2 : 2 * (d + 1) ≤ 140737488355330 := by have := HLe.out; omega
          have hhd := HHd.out
          unfold headS at hhd
          simp only [Bool.and_eq_true, beq_iff_eq] at hhd
          have hc2 := manyS_cases hhd.1
          have hcond := hhd.2.1
          clear hhd HHd HLe HLe2 HWh HLen HO HO1s
          rcases hc2 with ⟨rfl, rfl⟩ | ⟨rfl, rfl⟩ | ⟨rfl, rfl⟩ | ⟨rfl, rfl⟩ | ⟨rfl, rfl⟩ | ⟨rfl, rfl⟩ | ⟨rfl, hne, rfl⟩ | ⟨rfl, hne0, hne1⟩ | ⟨rfl, rfl⟩ | ⟨rfl, rfl⟩
          · obtain ⟨y0, hxe⟩ : ∃ y, x.e = [y] := List.length_eq_one_iff.1 HNe.out
            obtain ⟨b3, off3, L0, rfl, hbB0, hat0, hk0, -, hr0⟩ := HE.out.at_ 0 y0 (by rw [hxe]; rfl)
            obtain ⟨B0, k0, rfl, -, -⟩ := hr0.slice
            have hw0 := wholeL_at HWe.out (i := 0) (x := y0) (by rw [hxe]; rfl)
            rw [wholeE_X, Bool.and_eq_true] at hw0
            obtain ⟨T0, hT0⟩ : ∃ T : ByteArray, T = ⟨(tE y0).toArray⟩ := ⟨_, rfl⟩
            have hTd0 : T0.data.toList = tE y0 := by rw [hT0]
            have hp0 : part0 (tL x.e) 0 = T0.data.toList := by rw [hTd0]; exact part0_some (by rw [hxe]; rfl)
            have HTX : Hid (textS Lib.itoa x d = stmtF ⟨#[115, 101, 116]⟩ x.nm (tL x.e) (textB Lib.itoa x.A (d + 1)) (textB Lib.itoa x.B (d + 1)) nb d) := Lib.hid (by rw [textS_X, HOp.out, HNb.out])
            have hx2 := HTX.out
            rw [stm_set] at hx2
            rw [hp0] at hx2
            have hsz := congrArg List.length hx2
            simp only [List.length_append, List.length_cons, List.length_nil, list_size_] at hsz
            have fz0 : Fits (O1) x.nm := by unfold Fits; have c2 : (⟨#[32, 61, 32]⟩ : ByteArray).size = 3 := rfl; have c4 : (⟨#[59, 10]⟩ : ByteArray).size = 2 := rfl; omega
            have fz1 : Fits (O1 ++ x.nm) (⟨#[32, 61, 32]⟩ : ByteArray) := by unfold Fits; simp only [ByteArray.size_append]; have c2 : (⟨#[32, 61, 32]⟩ : ByteArray).size = 3 := rfl; have c4 : (⟨#[59, 10]⟩ : ByteArray).size = 2 := rfl; omega
            have fz2 : Fits (O1 ++ x.nm ++ (⟨#[32, 61, 32]⟩ : ByteArray)) T0 := by unfold Fits; simp only [ByteArray.size_append]; have c2 : (⟨#[32, 61, 32]⟩ : ByteArray).size = 3 := rfl; have c4 : (⟨#[59, 10]⟩ : ByteArray).size = 2 := rfl; omega
            have fz3 : Fits (O1 ++ x.nm ++ (⟨#[32, 61, 32]⟩ : ByteArray) ++ T0) (⟨#[59, 10]⟩ : ByteArray) := by unfold Fits; simp only [ByteArray.size_append]; have c2 : (⟨#[32, 61, 32]⟩ : ByteArray).size = 3 := rfl; have c4 : (⟨#[59, 10]⟩ : ByteArray).size = 2 := rfl; omega
            have HT0 : Hid (∀ w1, Below W1.heap.size W1 w1 → Calls Tryd.prog 57 #[exV y0.op y0.nm y0.n (.slice B0 y0.l.length k0) y0.a] w1 fun e w' => e = .returned (.string T0) ∧ Below w1.heap.size w1 w') := Lib.hid fun w1 hb => by
              have q := HQ.out _ hb
              have r := (rtext_any (n - 1)).1 P y0.l _ y0.op y0.nm y0.n y0.a w1 (hr0.below q hP) (lo_up hP q.size) hk0 hw0.1 hw0.2 (by rw [← tE_form, ← hTd0, list_size_]; omega)
              rw [← tE_form, ← hT0] at r
              exact r
            have HX2 := Lib.hid hx2
            have HC : Hid (∀ w1, Below W1.heap.size W1 w1 → (w1.cell? ⟨wr.heap.size, 1, none⟩ = some (.string x.nm) ∧ w1.cell? ⟨wr.heap.size, 2, none⟩ = some (.slice (some ⟨b3, off3, none⟩) 1 ce)) ∧ (w1.cell? ⟨b3, off3, none⟩ = some (.string y0.op) ∧ w1.cell? ⟨b3, off3 + 1, none⟩ = some (.string y0.nm) ∧ w1.cell? ⟨b3, off3 + 2, none⟩ = some (.int .i64 y0.n) ∧ w1.cell? ⟨b3, off3 + 3, none⟩ = some (.slice B0 y0.l.length k0) ∧ w1.cell? ⟨b3, off3 + 4, none⟩ = some (.int .i64 y0.a))) := Lib.hid fun w1 hb => ⟨⟨(HK.out.below hb HK.out.lt).cell 1, (HK.out.below hb HK.out.lt).cell 2⟩, (hat0.below (HQ.out _ hb) (hP b3 hbB0))⟩
            have BD : Hid (Below W1.heap.size W1 W1.drew) := Lib.hid (Below.refl _ _).drew
            have K0 := Lib.hid (HC.out _ BD.out)
            clear hx2 hsz hT0 hTd0 hp0 hw0 hr0 hat0 hk0
            try clear hxe
            go_wp2_with fail
            go_region_held3 (fun w1 => (w1.cell? ⟨wr.heap.size, 1, none⟩ = some (.string x.nm) ∧ w1.cell? ⟨wr.heap.size, 2, none⟩ = some (.slice (some ⟨b3, off3, none⟩) 1 ce)) ∧ (w1.cell? ⟨b3, off3, none⟩ = some (.string y0.op) ∧ w1.cell? ⟨b3, off3 + 1, none⟩ = some (.string y0.nm) ∧ w1.cell? ⟨b3, off3 + 2, none⟩ = some (.int .i64 y0.n) ∧ w1.cell? ⟨b3, off3 + 3, none⟩ = some (.slice B0 y0.l.length k0) ∧ w1.cell? ⟨b3, off3 + 4, none⟩ = some (.int .i64 y0.a)))
              (first | (with_reducible exact K0.out) | (with_reducible exact KB1.out) | (with_reducible exact KB2.out) | (with_reducible exact KB3.out))
              (first
              | (go_at_call 57; have HX := HT0.out _ BD.out; (with_reducible refine HX.mono ?_); clear HX; rintro e w_B1 ⟨rfl, hb⟩; have B1 := Lib.hid (thru BD.out hb); have KB1 := Lib.hid (HC.out _ B1.out); clear hb))
            all_goals go_wp2_with fail
            all_goals (
              go_meet
              exact ⟨_, rfl, Lib.hid (by rw [HLn.out, HX2.out]; simp [HO1.out]), HQ.out _ B1.out⟩
            )
          · obtain ⟨y0, hxe⟩ : ∃ y, x.e = [y] := List.length_eq_one_iff.1 HNe.out
            obtain ⟨b3, off3, L0, rfl, hbB0, hat0, hk0, -, hr0⟩ := HE.out.at_ 0 y0 (by rw [hxe]; rfl)
            obtain ⟨B0, k0, rfl, -, -⟩ := hr0.slice
            have hw0 := wholeL_at HWe.out (i := 0) (x := y0) (by rw [hxe]; rfl)
            rw [wholeE_X, Bool.and_eq_true] at hw0
            obtain ⟨T0, hT0⟩ : ∃ T : ByteArray, T = ⟨(tE y0).toArray⟩ := ⟨_, rfl⟩
            have hTd0 : T0.data.toList = tE y0 := by rw [hT0]
            have hp0 : part0 (tL x.e) 0 = T0.data.toList := by rw [hTd0]; exact part0_some (by rw [hxe]; rfl)
            have HTX : Hid (textS Lib.itoa x d = stmtF ⟨#[97, 115, 115, 101, 114, 116]⟩ x.nm (tL x.e) (textB Lib.itoa x.A (d + 1)) (textB Lib.itoa x.B (d + 1)) nb d) := Lib.hid (by rw [textS_X, HOp.out, HNb.out])
            have hx2 := HTX.out
            rw [stm_assert] at hx2
            rw [hp0] at hx2
            have hsz := congrArg List.length hx2
            simp only [List.length_append, List.length_cons, List.length_nil, list_size_] at hsz
            have fz0 : Fits (O1) (⟨#[97, 115, 115, 101, 114, 116]⟩ : ByteArray) := by unfold Fits; have c1 : (⟨#[97, 115, 115, 101, 114, 116]⟩ : ByteArray).size = 6 := rfl; have c2 : (⟨#[32]⟩ : ByteArray).size = 1 := rfl; have c4 : (⟨#[59, 10]⟩ : ByteArray).size = 2 := rfl; omega
            have fz1 : Fits (O1 ++ (⟨#[97, 115, 115, 101, 114, 116]⟩ : ByteArray)) (⟨#[32]⟩ : ByteArray) := by unfold Fits; simp only [ByteArray.size_append]; have c1 : (⟨#[97, 115, 115, 101, 114, 116]⟩ : ByteArray).size = 6 := rfl; have c2 : (⟨#[32]⟩ : ByteArray).size = 1 := rfl; have c4 : (⟨#[59, 10]⟩ : ByteArray).size = 2 := rfl; omega
            have fz2 : Fits (O1 ++ (⟨#[97, 115, 115, 101, 114, 116]⟩ : ByteArray) ++ (⟨#[32]⟩ : ByteArray)) T0 := by unfold Fits; simp only [ByteArray.size_append]; have c1 : (⟨#[97, 115, 115, 101, 114, 116]⟩ : ByteArray).size = 6 := rfl; have c2 : (⟨#[32]⟩ : ByteArray).size = 1 := rfl; have c4 : (⟨#[59, 10]⟩ : ByteArray).size = 2 := rfl; omega
            have fz3 : Fits (O1 ++ (⟨#[97, 115, 115, 101, 114, 116]⟩ : ByteArray) ++ (⟨#[32]⟩ : ByteArray) ++ T0) (⟨#[59, 10]⟩ : ByteArray) := by unfold Fits; simp only [ByteArray.size_append]; have c1 : (⟨#[97, 115, 115, 101, 114, 116]⟩ : ByteArray).size = 6 := rfl; have c2 : (⟨#[32]⟩ : ByteArray).size = 1 := rfl; have c4 : (⟨#[59, 10]⟩ : ByteArray).size = 2 := rfl; omega
            have HT0 : Hid (∀ w1, Below W1.heap.size W1 w1 → Calls Tryd.prog 57 #[exV y0.op y0.nm y0.n (.slice B0 y0.l.length k0) y0.a] w1 fun e w' => e = .returned (.string T0) ∧ Below w1.heap.size w1 w') := Lib.hid fun w1 hb => by
              have q := HQ.out _ hb
              have r := (rtext_any (n - 1)).1 P y0.l _ y0.op y0.nm y0.n y0.a w1 (hr0.below q hP) (lo_up hP q.size) hk0 hw0.1 hw0.2 (by rw [← tE_form, ← hTd0, list_size_]; omega)
              rw [← tE_form, ← hT0] at r
              exact r
            have HX2 := Lib.hid hx2
            have HC : Hid (∀ w1, Below W1.heap.size W1 w1 → (w1.cell? ⟨wr.heap.size, 0, none⟩ = some (.string ⟨#[97, 115, 115, 101, 114, 116]⟩) ∧ w1.cell? ⟨wr.heap.size, 2, none⟩ = some (.slice (some ⟨b3, off3, none⟩) 1 ce)) ∧ (w1.cell? ⟨b3, off3, none⟩ = some (.string y0.op) ∧ w1.cell? ⟨b3, off3 + 1, none⟩ = some (.string y0.nm) ∧ w1.cell? ⟨b3, off3 + 2, none⟩ = some (.int .i64 y0.n) ∧ w1.cell? ⟨b3, off3 + 3, none⟩ = some (.slice B0 y0.l.length k0) ∧ w1.cell? ⟨b3, off3 + 4, none⟩ = some (.int .i64 y0.a))) := Lib.hid fun w1 hb => ⟨⟨(HK.out.below hb HK.out.lt).cell 0, (HK.out.below hb HK.out.lt).cell 2⟩, (hat0.below (HQ.out _ hb) (hP b3 hbB0))⟩
            have BD : Hid (Below W1.heap.size W1 W1.drew) := Lib.hid (Below.refl _ _).drew
            have K0 := Lib.hid (HC.out _ BD.out)
            clear hx2 hsz hT0 hTd0 hp0 hw0 hr0 hat0 hk0
            try clear hxe
            go_wp2_with fail
            go_region_held3 (fun w1 => (w1.cell? ⟨wr.heap.size, 0, none⟩ = some (.string ⟨#[97, 115, 115, 101, 114, 116]⟩) ∧ w1.cell? ⟨wr.heap.size, 2, none⟩ = some (.slice (some ⟨b3, off3, none⟩) 1 ce)) ∧ (w1.cell? ⟨b3, off3, none⟩ = some (.string y0.op) ∧ w1.cell? ⟨b3, off3 + 1, none⟩ = some (.string y0.nm) ∧ w1.cell? ⟨b3, off3 + 2, none⟩ = some (.int .i64 y0.n) ∧ w1.cell? ⟨b3, off3 + 3, none⟩ = some (.slice B0 y0.l.length k0) ∧ w1.cell? ⟨b3, off3 + 4, none⟩ = some (.int .i64 y0.a)))
              (first | (with_reducible exact K0.out) | (with_reducible exact KB1.out) | (with_reducible exact KB2.out) | (with_reducible exact KB3.out))
              (first
              | (go_at_call 57; have HX := HT0.out _ BD.out; (with_reducible refine HX.mono ?_); clear HX; rintro e w_B1 ⟨rfl, hb⟩; have B1 := Lib.hid (thru BD.out hb); have KB1 := Lib.hid (HC.out _ B1.out); clear hb))
            all_goals go_wp2_with fail
            all_goals (
              go_meet
              exact ⟨_, rfl, Lib.hid (by rw [HLn.out, HX2.out]; simp [HO1.out]), HQ.out _ B1.out⟩
            )
          · obtain ⟨y0, hxe⟩ : ∃ y, x.e = [y] := List.length_eq_one_iff.1 HNe.out
            obtain ⟨b3, off3, L0, rfl, hbB0, hat0, hk0, -, hr0⟩ := HE.out.at_ 0 y0 (by rw [hxe]; rfl)
            obtain ⟨B0, k0, rfl, -, -⟩ := hr0.slice
            have hw0 := wholeL_at HWe.out (i := 0) (x := y0) (by rw [hxe]; rfl)
            rw [wholeE_X, Bool.and_eq_true] at hw0
            obtain ⟨T0, hT0⟩ : ∃ T : ByteArray, T = ⟨(tE y0).toArray⟩ := ⟨_, rfl⟩
            have hTd0 : T0.data.toList = tE y0 := by rw [hT0]
            have hp0 : part0 (tL x.e) 0 = T0.data.toList := by rw [hTd0]; exact part0_some (by rw [hxe]; rfl)
            have HTX : Hid (textS Lib.itoa x d = stmtF ⟨#[97, 115, 115, 117, 109, 101]⟩ x.nm (tL x.e) (textB Lib.itoa x.A (d + 1)) (textB Lib.itoa x.B (d + 1)) nb d) := Lib.hid (by rw [textS_X, HOp.out, HNb.out])
            have hx2 := HTX.out
            rw [stm_assume] at hx2
            rw [hp0] at hx2
            have hsz := congrArg List.length hx2
            simp only [List.length_append, List.length_cons, List.length_nil, list_size_] at hsz
            have fz0 : Fits (O1) (⟨#[97, 115, 115, 117, 109, 101]⟩ : ByteArray) := by unfold Fits; have c1 : (⟨#[97, 115, 115, 117, 109, 101]⟩ : ByteArray).size = 6 := rfl; have c2 : (⟨#[32]⟩ : ByteArray).size = 1 := rfl; have c4 : (⟨#[59, 10]⟩ : ByteArray).size = 2 := rfl; omega
            have fz1 : Fits (O1 ++ (⟨#[97, 115, 115, 117, 109, 101]⟩ : ByteArray)) (⟨#[32]⟩ : ByteArray) := by unfold Fits; simp only [ByteArray.size_append]; have c1 : (⟨#[97, 115, 115, 117, 109, 101]⟩ : ByteArray).size = 6 := rfl; have c2 : (⟨#[32]⟩ : ByteArray).size = 1 := rfl; have c4 : (⟨#[59, 10]⟩ : ByteArray).size = 2 := rfl; omega
            have fz2 : Fits (O1 ++ (⟨#[97, 115, 115, 117, 109, 101]⟩ : ByteArray) ++ (⟨#[32]⟩ : ByteArray)) T0 := by unfold Fits; simp only [ByteArray.size_append]; have c1 : (⟨#[97, 115, 115, 117, 109, 101]⟩ : ByteArray).size = 6 := rfl; have c2 : (⟨#[32]⟩ : ByteArray).size = 1 := rfl; have c4 : (⟨#[59, 10]⟩ : ByteArray).size = 2 := rfl; omega
            have fz3 : Fits (O1 ++ (⟨#[97, 115, 115, 117, 109, 101]⟩ : ByteArray) ++ (⟨#[32]⟩ : ByteArray) ++ T0) (⟨#[59, 10]⟩ : ByteArray) := by unfold Fits; simp only [ByteArray.size_append]; have c1 : (⟨#[97, 115, 115, 117, 109, 101]⟩ : ByteArray).size = 6 := rfl; have c2 : (⟨#[32]⟩ : ByteArray).size = 1 := rfl; have c4 : (⟨#[59, 10]⟩ : ByteArray).size = 2 := rfl; omega
            have HT0 : Hid (∀ w1, Below W1.heap.size W1 w1 → Calls Tryd.prog 57 #[exV y0.op y0.nm y0.n (.slice B0 y0.l.length k0) y0.a] w1 fun e w' => e = .returned (.string T0) ∧ Below w1.heap.size w1 w') := Lib.hid fun w1 hb => by
              have q := HQ.out _ hb
              have r := (rtext_any (n - 1)).1 P y0.l _ y0.op y0.nm y0.n y0.a w1 (hr0.below q hP) (lo_up hP q.size) hk0 hw0.1 hw0.2 (by rw [← tE_form, ← hTd0, list_size_]; omega)
              rw [← tE_form, ← hT0] at r
              exact r
            have HX2 := Lib.hid hx2
            have HC : Hid (∀ w1, Below W1.heap.size W1 w1 → (w1.cell? ⟨wr.heap.size, 0, none⟩ = some (.string ⟨#[97, 115, 115, 117, 109, 101]⟩) ∧ w1.cell? ⟨wr.heap.size, 2, none⟩ = some (.slice (some ⟨b3, off3, none⟩) 1 ce)) ∧ (w1.cell? ⟨b3, off3, none⟩ = some (.string y0.op) ∧ w1.cell? ⟨b3, off3 + 1, none⟩ = some (.string y0.nm) ∧ w1.cell? ⟨b3, off3 + 2, none⟩ = some (.int .i64 y0.n) ∧ w1.cell? ⟨b3, off3 + 3, none⟩ = some (.slice B0 y0.l.length k0) ∧ w1.cell? ⟨b3, off3 + 4, none⟩ = some (.int .i64 y0.a))) := Lib.hid fun w1 hb => ⟨⟨(HK.out.below hb HK.out.lt).cell 0, (HK.out.below hb HK.out.lt).cell 2⟩, (hat0.below (HQ.out _ hb) (hP b3 hbB0))⟩
            have BD : Hid (Below W1.heap.size W1 W1.drew) := Lib.hid (Below.refl _ _).drew
            have K0 := Lib.hid (HC.out _ BD.out)
            clear hx2 hsz hT0 hTd0 hp0 hw0 hr0 hat0 hk0
            try clear hxe
            go_wp2_with fail
            go_region_held3 (fun w1 => (w1.cell? ⟨wr.heap.size, 0, none⟩ = some (.string ⟨#[97, 115, 115, 117, 109, 101]⟩) ∧ w1.cell? ⟨wr.heap.size, 2, none⟩ = some (.slice (some ⟨b3, off3, none⟩) 1 ce)) ∧ (w1.cell? ⟨b3, off3, none⟩ = some (.string y0.op) ∧ w1.cell? ⟨b3, off3 + 1, none⟩ = some (.string y0.nm) ∧ w1.cell? ⟨b3, off3 + 2, none⟩ = some (.int .i64 y0.n) ∧ w1.cell? ⟨b3, off3 + 3, none⟩ = some (.slice B0 y0.l.length k0) ∧ w1.cell? ⟨b3, off3 + 4, none⟩ = some (.int .i64 y0.a)))
              (first | (with_reducible exact K0.out) | (with_reducible exact KB1.out) | (with_reducible exact KB2.out) | (with_reducible exact KB3.out))
              (first
              | (go_at_call 57; have HX := HT0.out _ BD.out; (with_reducible refine HX.mono ?_); clear HX; rintro e w_B1 ⟨rfl, hb⟩; have B1 := Lib.hid (thru BD.out hb); have KB1 := Lib.hid (HC.out _ B1.out); clear hb))
            all_goals go_wp2_with fail
            all_goals (
              go_meet
              exact ⟨_, rfl, Lib.hid (by rw [HLn.out, HX2.out]; simp [HO1.out]), HQ.out _ B1.out⟩
            )
          · obtain ⟨y0, hxe⟩ : ∃ y, x.e = [y] := List.length_eq_one_iff.1 HNe.out
            by_cases hb0 : 0 < nb
            · obtain ⟨b3, off3, L0, rfl, hbB0, hat0, hk0, -, hr0⟩ := HE.out.at_ 0 y0 (by rw [hxe]; rfl)
              obtain ⟨B0, k0, rfl, -, -⟩ := hr0.slice
              have hw0 := wholeL_at HWe.out (i := 0) (x := y0) (by rw [hxe]; rfl)
              rw [wholeE_X, Bool.and_eq_true] at hw0
              obtain ⟨T0, hT0⟩ : ∃ T : ByteArray, T = ⟨(tE y0).toArray⟩ := ⟨_, rfl⟩
              have hTd0 : T0.data.toList = tE y0 := by rw [hT0]
              have hp0 : part0 (tL x.e) 0 = T0.data.toList := by rw [hTd0]; exact part0_some (by rw [hxe]; rfl)
              have HTX : Hid (textS Lib.itoa x d = stmtF ⟨#[105, 102]⟩ x.nm (tL x.e) (textB Lib.itoa x.A (d + 1)) (textB Lib.itoa x.B (d + 1)) nb d) := Lib.hid (by rw [textS_X, HOp.out, HNb.out])
              have hx2 := HTX.out
              rw [stm_if1 _ _ _ _ _ _ hb0] at hx2
              rw [hp0] at hx2
              obtain ⟨RA, hRA⟩ : ∃ T : ByteArray, T = ⟨(textB Lib.itoa x.A (d + 1)).toArray⟩ := ⟨_, rfl⟩
              have hRAd : RA.data.toList = textB Lib.itoa x.A (d + 1) := by rw [hRA]
              obtain ⟨RB, hRB⟩ : ∃ T : ByteArray, T = ⟨(textB Lib.itoa x.B (d + 1)).toArray⟩ := ⟨_, rfl⟩
              have hRBd : RB.data.toList = textB Lib.itoa x.B (d + 1) := by rw [hRB]
              rw [← hRAd, ← hRBd] at hx2
              unfold blockF at hx2
              have hsz := congrArg List.length hx2
              simp only [List.length_append, List.length_cons, List.length_nil, list_size_, ind_len] at hsz
              have fz0 : Fits (O1) (⟨#[105, 102, 32]⟩ : ByteArray) := by unfold Fits; have c1 : (⟨#[105, 102, 32]⟩ : ByteArray).size = 3 := rfl; have c3 : (⟨#[32, 123, 10]⟩ : ByteArray).size = 3 := rfl; have c6 : (⟨#[125, 32, 101, 108, 115, 101, 32, 123, 10]⟩ : ByteArray).size = 9 := rfl; have c9 : (⟨#[125, 10]⟩ : ByteArray).size = 2 := rfl; omega
              have fz1 : Fits (O1 ++ (⟨#[105, 102, 32]⟩ : ByteArray)) T0 := by unfold Fits; simp only [ByteArray.size_append]; have c1 : (⟨#[105, 102, 32]⟩ : ByteArray).size = 3 := rfl; have c3 : (⟨#[32, 123, 10]⟩ : ByteArray).size = 3 := rfl; have c6 : (⟨#[125, 32, 101, 108, 115, 101, 32, 123, 10]⟩ : ByteArray).size = 9 := rfl; have c9 : (⟨#[125, 10]⟩ : ByteArray).size = 2 := rfl; omega
              have fz2 : Fits (O1 ++ (⟨#[105, 102, 32]⟩ : ByteArray) ++ T0) (⟨#[32, 123, 10]⟩ : ByteArray) := by unfold Fits; simp only [ByteArray.size_append]; have c1 : (⟨#[105, 102, 32]⟩ : ByteArray).size = 3 := rfl; have c3 : (⟨#[32, 123, 10]⟩ : ByteArray).size = 3 := rfl; have c6 : (⟨#[125, 32, 101, 108, 115, 101, 32, 123, 10]⟩ : ByteArray).size = 9 := rfl; have c9 : (⟨#[125, 10]⟩ : ByteArray).size = 2 := rfl; omega
              have fz3 : Fits (O1 ++ (⟨#[105, 102, 32]⟩ : ByteArray) ++ T0 ++ (⟨#[32, 123, 10]⟩ : ByteArray)) RA := by unfold Fits; simp only [ByteArray.size_append]; have c1 : (⟨#[105, 102, 32]⟩ : ByteArray).size = 3 := rfl; have c3 : (⟨#[32, 123, 10]⟩ : ByteArray).size = 3 := rfl; have c6 : (⟨#[125, 32, 101, 108, 115, 101, 32, 123, 10]⟩ : ByteArray).size = 9 := rfl; have c9 : (⟨#[125, 10]⟩ : ByteArray).size = 2 := rfl; omega
              have fz4 : Fits (O1 ++ (⟨#[105, 102, 32]⟩ : ByteArray) ++ T0 ++ (⟨#[32, 123, 10]⟩ : ByteArray) ++ RA) D := by unfold Fits; simp only [ByteArray.size_append]; have c1 : (⟨#[105, 102, 32]⟩ : ByteArray).size = 3 := rfl; have c3 : (⟨#[32, 123, 10]⟩ : ByteArray).size = 3 := rfl; have c6 : (⟨#[125, 32, 101, 108, 115, 101, 32, 123, 10]⟩ : ByteArray).size = 9 := rfl; have c9 : (⟨#[125, 10]⟩ : ByteArray).size = 2 := rfl; omega
              have fz5 : Fits (O1 ++ (⟨#[105, 102, 32]⟩ : ByteArray) ++ T0 ++ (⟨#[32, 123, 10]⟩ : ByteArray) ++ RA ++ D) (⟨#[125, 32, 101, 108, 115, 101, 32, 123, 10]⟩ : ByteArray) := by unfold Fits; simp only [ByteArray.size_append]; have c1 : (⟨#[105, 102, 32]⟩ : ByteArray).size = 3 := rfl; have c3 : (⟨#[32, 123, 10]⟩ : ByteArray).size = 3 := rfl; have c6 : (⟨#[125, 32, 101, 108, 115, 101, 32, 123, 10]⟩ : ByteArray).size = 9 := rfl; have c9 : (⟨#[125, 10]⟩ : ByteArray).size = 2 := rfl; omega
              have fz6 : Fits (O1 ++ (⟨#[105, 102, 32]⟩ : ByteArray) ++ T0 ++ (⟨#[32, 123, 10]⟩ : ByteArray) ++ RA ++ D ++ (⟨#[125, 32, 101, 108, 115, 101, 32, 123, 10]⟩ : ByteArray)) RB := by unfold Fits; simp only [ByteArray.size_append]; have c1 : (⟨#[105, 102, 32]⟩ : ByteArray).size = 3 := rfl; have c3 : (⟨#[32, 123, 10]⟩ : ByteArray).size = 3 := rfl; have c6 : (⟨#[125, 32, 101, 108, 115, 101, 32, 123, 10]⟩ : ByteArray).size = 9 := rfl; have c9 : (⟨#[125, 10]⟩ : ByteArray).size = 2 := rfl; omega
              have fz7 : Fits (O1 ++ (⟨#[105, 102, 32]⟩ : ByteArray) ++ T0 ++ (⟨#[32, 123, 10]⟩ : ByteArray) ++ RA ++ D ++ (⟨#[125, 32, 101, 108, 115, 101, 32, 123, 10]⟩ : ByteArray) ++ RB) D := by unfold Fits; simp only [ByteArray.size_append]; have c1 : (⟨#[105, 102, 32]⟩ : ByteArray).size = 3 := rfl; have c3 : (⟨#[32, 123, 10]⟩ : ByteArray).size = 3 := rfl; have c6 : (⟨#[125, 32, 101, 108, 115, 101, 32, 123, 10]⟩ : ByteArray).size = 9 := rfl; have c9 : (⟨#[125, 10]⟩ : ByteArray).size = 2 := rfl; omega
              have fz8 : Fits (O1 ++ (⟨#[105, 102, 32]⟩ : ByteArray) ++ T0 ++ (⟨#[32, 123, 10]⟩ : ByteArray) ++ RA ++ D ++ (⟨#[125, 32, 101, 108, 115, 101, 32, 123, 10]⟩ : ByteArray) ++ RB ++ D) (⟨#[125, 10]⟩ : ByteArray) := by unfold Fits; simp only [ByteArray.size_append]; have c1 : (⟨#[105, 102, 32]⟩ : ByteArray).size = 3 := rfl; have c3 : (⟨#[32, 123, 10]⟩ : ByteArray).size = 3 := rfl; have c6 : (⟨#[125, 32, 101, 108, 115, 101, 32, 123, 10]⟩ : ByteArray).size = 9 := rfl; have c9 : (⟨#[125, 10]⟩ : ByteArray).size = 2 := rfl; omega
              have fd : Fits D (⟨#[32, 32]⟩ : ByteArray) := by unfold Fits; have c0 : (⟨#[32, 32]⟩ : ByteArray).size = 2 := rfl; omega
              have HT0 : Hid (∀ w1, Below W1.heap.size W1 w1 → Calls Tryd.prog 57 #[exV y0.op y0.nm y0.n (.slice B0 y0.l.length k0) y0.a] w1 fun e w' => e = .returned (.string T0) ∧ Below w1.heap.size w1 w') := Lib.hid fun w1 hb => by
                have q := HQ.out _ hb
                have r := (rtext_any (n - 1)).1 P y0.l _ y0.op y0.nm y0.n y0.a w1 (hr0.below q hP) (lo_up hP q.size) hk0 hw0.1 hw0.2 (by rw [← tE_form, ← hTd0, list_size_]; omega)
                rw [← tE_form, ← hT0] at r
                exact r
              have HBA : Hid (∀ w1, Below W1.heap.size W1 w1 → Calls Tryd.prog 34 #[.slice Aa na ca, .string (D ++ ⟨#[32, 32]⟩)] w1 fun e w' => e = .returned (.string RA) ∧ Below w1.heap.size w1 w') := Lib.hid fun w1 hb => by
                have q := HQ.out _ hb
                have r := HIH.out P x.A _ (d + 1) (D ++ ⟨#[32, 32]⟩) w1 (HSA.out.below q hP) (lo_up hP q.size) HWA.out (deeper HD.out) (by omega) (by rw [← hRAd, list_size_]; omega)
                rw [← hRA] at r
                exact r
              have HBB : Hid (∀ w1, Below W1.heap.size W1 w1 → Calls Tryd.prog 34 #[.slice Ab nb cb, .string (D ++ ⟨#[32, 32]⟩)] w1 fun e w' => e = .returned (.string RB) ∧ Below w1.heap.size w1 w') := Lib.hid fun w1 hb => by
                have q := HQ.out _ hb
                have r := HIH.out P x.B _ (d + 1) (D ++ ⟨#[32, 32]⟩) w1 (HSB.out.below q hP) (lo_up hP q.size) HWB.out (deeper HD.out) (by omega) (by rw [← hRBd, list_size_]; omega)
                rw [← hRB] at r
                exact r
              have HX2 := Lib.hid hx2
              have HC : Hid (∀ w1, Below W1.heap.size W1 w1 → (w1.cell? ⟨wr.heap.size, 2, none⟩ = some (.slice (some ⟨b3, off3, none⟩) 1 ce) ∧ w1.cell? ⟨wr.heap.size, 3, none⟩ = some (.slice Aa na ca)) ∧ (w1.cell? ⟨b3, off3, none⟩ = some (.string y0.op) ∧ w1.cell? ⟨b3, off3 + 1, none⟩ = some (.string y0.nm) ∧ w1.cell? ⟨b3, off3 + 2, none⟩ = some (.int .i64 y0.n) ∧ w1.cell? ⟨b3, off3 + 3, none⟩ = some (.slice B0 y0.l.length k0) ∧ w1.cell? ⟨b3, off3 + 4, none⟩ = some (.int .i64 y0.a))) := Lib.hid fun w1 hb => ⟨⟨(HK.out.below hb HK.out.lt).cell 2, (HK.out.below hb HK.out.lt).cell 3⟩, (hat0.below (HQ.out _ hb) (hP b3 hbB0))⟩
              have HC4 : Hid (∀ w1, Below W1.heap.size W1 w1 → w1.cell? ⟨wr.heap.size, 4, none⟩ = some (.slice Ab nb cb)) := Lib.hid fun w1 hb => (HK.out.below hb HK.out.lt).cell 4
              have BD : Hid (Below W1.heap.size W1 W1.drew) := Lib.hid (Below.refl _ _).drew
              have K0 := Lib.hid (HC.out _ BD.out)
              clear hx2 hsz hT0 hTd0 hp0 hw0 hr0 hat0 hk0 hRA hRAd hRB hRBd
              try clear hxe
              go_wp2_with fail
              go_region_held3 (fun w1 => (w1.cell? ⟨wr.heap.size, 2, none⟩ = some (.slice (some ⟨b3, off3, none⟩) 1 ce) ∧ w1.cell? ⟨wr.heap.size, 3, none⟩ = some (.slice Aa na ca)) ∧ (w1.cell? ⟨b3, off3, none⟩ = some (.string y0.op) ∧ w1.cell? ⟨b3, off3 + 1, none⟩ = some (.string y0.nm) ∧ w1.cell? ⟨b3, off3 + 2, none⟩ = some (.int .i64 y0.n) ∧ w1.cell? ⟨b3, off3 + 3, none⟩ = some (.slice B0 y0.l.length k0) ∧ w1.cell? ⟨b3, off3 + 4, none⟩ = some (.int .i64 y0.a)))
                (first | (with_reducible exact K0.out) | (with_reducible exact KB1.out) | (with_reducible exact KB2.out) | (with_reducible exact KB3.out))
                (first
                | (go_at_call 57; have HX := HT0.out _ BD.out; (with_reducible refine HX.mono ?_); clear HX; rintro e w_B1 ⟨rfl, hb⟩; have B1 := Lib.hid (thru BD.out hb); have KB1 := Lib.hid (HC.out _ B1.out); clear hb)
                | (go_at_call 34; have HX := HBA.out _ B1.out; (with_reducible refine HX.mono ?_); clear HX; rintro e w_B2 ⟨rfl, hb⟩; have B2 := Lib.hid (thru B1.out hb); have KB2 := Lib.hid (HC.out _ B2.out); have z9 := HC4.out _ B2.out; clear hb))
              all_goals go_wp2_with (go_at_call 34; have HX := HBB.out _ B2.out; (with_reducible refine HX.mono ?_); clear HX; rintro e w_B3 ⟨rfl, hb⟩; have B3 := Lib.hid (thru B2.out hb); have KB3 := Lib.hid (HC.out _ B3.out); clear hb)
              all_goals (
                go_meet
                exact ⟨_, rfl, Lib.hid (by rw [HLn.out, HX2.out]; simp [HO1.out, HD.out]), HQ.out _ B3.out⟩
              )
            · obtain rfl : nb = 0 := by omega
              obtain ⟨b3, off3, L0, rfl, hbB0, hat0, hk0, -, hr0⟩ := HE.out.at_ 0 y0 (by rw [hxe]; rfl)
              obtain ⟨B0, k0, rfl, -, -⟩ := hr0.slice
              have hw0 := wholeL_at HWe.out (i := 0) (x := y0) (by rw [hxe]; rfl)
              rw [wholeE_X, Bool.and_eq_true] at hw0
              obtain ⟨T0, hT0⟩ : ∃ T : ByteArray, T = ⟨(tE y0).toArray⟩ := ⟨_, rfl⟩
              have hTd0 : T0.data.toList = tE y0 := by rw [hT0]
              have hp0 : part0 (tL x.e) 0 = T0.data.toList := by rw [hTd0]; exact part0_some (by rw [hxe]; rfl)
              have HTX : Hid (textS Lib.itoa x d = stmtF ⟨#[105, 102]⟩ x.nm (tL x.e) (textB Lib.itoa x.A (d + 1)) (textB Lib.itoa x.B (d + 1)) 0 d) := Lib.hid (by rw [textS_X, HOp.out, HNb.out])
              have hx2 := HTX.out
              rw [stm_if0] at hx2
              rw [hp0] at hx2
              obtain ⟨RA, hRA⟩ : ∃ T : ByteArray, T = ⟨(textB Lib.itoa x.A (d + 1)).toArray⟩ := ⟨_, rfl⟩
              have hRAd : RA.data.toList = textB Lib.itoa x.A (d + 1) := by rw [hRA]
              rw [← hRAd] at hx2
              unfold blockF at hx2
              have hsz := congrArg List.length hx2
              simp only [List.length_append, List.length_cons, List.length_nil, list_size_, ind_len] at hsz
              have fz0 : Fits (O1) (⟨#[105, 102, 32]⟩ : ByteArray) := by unfold Fits; have c1 : (⟨#[105, 102, 32]⟩ : ByteArray).size = 3 := rfl; have c3 : (⟨#[32, 123, 10]⟩ : ByteArray).size = 3 := rfl; have c6 : (⟨#[125, 10]⟩ : ByteArray).size = 2 := rfl; omega
              have fz1 : Fits (O1 ++ (⟨#[105, 102, 32]⟩ : ByteArray)) T0 := by unfold Fits; simp only [ByteArray.size_append]; have c1 : (⟨#[105, 102, 32]⟩ : ByteArray).size = 3 := rfl; have c3 : (⟨#[32, 123, 10]⟩ : ByteArray).size = 3 := rfl; have c6 : (⟨#[125, 10]⟩ : ByteArray).size = 2 := rfl; omega
              have fz2 : Fits (O1 ++ (⟨#[105, 102, 32]⟩ : ByteArray) ++ T0) (⟨#[32, 123, 10]⟩ : ByteArray) := by unfold Fits; simp only [ByteArray.size_append]; have c1 : (⟨#[105, 102, 32]⟩ : ByteArray).size = 3 := rfl; have c3 : (⟨#[32, 123, 10]⟩ : ByteArray).size = 3 := rfl; have c6 : (⟨#[125, 10]⟩ : ByteArray).size = 2 := rfl; omega
              have fz3 : Fits (O1 ++ (⟨#[105, 102, 32]⟩ : ByteArray) ++ T0 ++ (⟨#[32, 123, 10]⟩ : ByteArray)) RA := by unfold Fits; simp only [ByteArray.size_append]; have c1 : (⟨#[105, 102, 32]⟩ : ByteArray).size = 3 := rfl; have c3 : (⟨#[32, 123, 10]⟩ : ByteArray).size = 3 := rfl; have c6 : (⟨#[125, 10]⟩ : ByteArray).size = 2 := rfl; omega
              have fz4 : Fits (O1 ++ (⟨#[105, 102, 32]⟩ : ByteArray) ++ T0 ++ (⟨#[32, 123, 10]⟩ : ByteArray) ++ RA) D := by unfold Fits; simp only [ByteArray.size_append]; have c1 : (⟨#[105, 102, 32]⟩ : ByteArray).size = 3 := rfl; have c3 : (⟨#[32, 123, 10]⟩ : ByteArray).size = 3 := rfl; have c6 : (⟨#[125, 10]⟩ : ByteArray).size = 2 := rfl; omega
              have fz5 : Fits (O1 ++ (⟨#[105, 102, 32]⟩ : ByteArray) ++ T0 ++ (⟨#[32, 123, 10]⟩ : ByteArray) ++ RA ++ D) (⟨#[125, 10]⟩ : ByteArray) := by unfold Fits; simp only [ByteArray.size_append]; have c1 : (⟨#[105, 102, 32]⟩ : ByteArray).size = 3 := rfl; have c3 : (⟨#[32, 123, 10]⟩ : ByteArray).size = 3 := rfl; have c6 : (⟨#[125, 10]⟩ : ByteArray).size = 2 := rfl; omega
              have fd : Fits D (⟨#[32, 32]⟩ : ByteArray) := by unfold Fits; have c0 : (⟨#[32, 32]⟩ : ByteArray).size = 2 := rfl; omega
              have HT0 : Hid (∀ w1, Below W1.heap.size W1 w1 → Calls Tryd.prog 57 #[exV y0.op y0.nm y0.n (.slice B0 y0.l.length k0) y0.a] w1 fun e w' => e = .returned (.string T0) ∧ Below w1.heap.size w1 w') := Lib.hid fun w1 hb => by
                have q := HQ.out _ hb
                have r := (rtext_any (n - 1)).1 P y0.l _ y0.op y0.nm y0.n y0.a w1 (hr0.below q hP) (lo_up hP q.size) hk0 hw0.1 hw0.2 (by rw [← tE_form, ← hTd0, list_size_]; omega)
                rw [← tE_form, ← hT0] at r
                exact r
              have HBA : Hid (∀ w1, Below W1.heap.size W1 w1 → Calls Tryd.prog 34 #[.slice Aa na ca, .string (D ++ ⟨#[32, 32]⟩)] w1 fun e w' => e = .returned (.string RA) ∧ Below w1.heap.size w1 w') := Lib.hid fun w1 hb => by
                have q := HQ.out _ hb
                have r := HIH.out P x.A _ (d + 1) (D ++ ⟨#[32, 32]⟩) w1 (HSA.out.below q hP) (lo_up hP q.size) HWA.out (deeper HD.out) (by omega) (by rw [← hRAd, list_size_]; omega)
                rw [← hRA] at r
                exact r
              have HX2 := Lib.hid hx2
              have HC : Hid (∀ w1, Below W1.heap.size W1 w1 → (w1.cell? ⟨wr.heap.size, 2, none⟩ = some (.slice (some ⟨b3, off3, none⟩) 1 ce) ∧ w1.cell? ⟨wr.heap.size, 3, none⟩ = some (.slice Aa na ca)) ∧ (w1.cell? ⟨b3, off3, none⟩ = some (.string y0.op) ∧ w1.cell? ⟨b3, off3 + 1, none⟩ = some (.string y0.nm) ∧ w1.cell? ⟨b3, off3 + 2, none⟩ = some (.int .i64 y0.n) ∧ w1.cell? ⟨b3, off3 + 3, none⟩ = some (.slice B0 y0.l.length k0) ∧ w1.cell? ⟨b3, off3 + 4, none⟩ = some (.int .i64 y0.a))) := Lib.hid fun w1 hb => ⟨⟨(HK.out.below hb HK.out.lt).cell 2, (HK.out.below hb HK.out.lt).cell 3⟩, (hat0.below (HQ.out _ hb) (hP b3 hbB0))⟩
              have HC4 : Hid (∀ w1, Below W1.heap.size W1 w1 → w1.cell? ⟨wr.heap.size, 4, none⟩ = some (.slice Ab 0 cb)) := Lib.hid fun w1 hb => (HK.out.below hb HK.out.lt).cell 4
              have BD : Hid (Below W1.heap.size W1 W1.drew) := Lib.hid (Below.refl _ _).drew
              have K0 := Lib.hid (HC.out _ BD.out)
              clear hx2 hsz hT0 hTd0 hp0 hw0 hr0 hat0 hk0 hRA hRAd 
              try clear hxe
              go_wp2_with fail
              go_region_held3 (fun w1 => (w1.cell? ⟨wr.heap.size, 2, none⟩ = some (.slice (some ⟨b3, off3, none⟩) 1 ce) ∧ w1.cell? ⟨wr.heap.size, 3, none⟩ = some (.slice Aa na ca)) ∧ (w1.cell? ⟨b3, off3, none⟩ = some (.string y0.op) ∧ w1.cell? ⟨b3, off3 + 1, none⟩ = some (.string y0.nm) ∧ w1.cell? ⟨b3, off3 + 2, none⟩ = some (.int .i64 y0.n) ∧ w1.cell? ⟨b3, off3 + 3, none⟩ = some (.slice B0 y0.l.length k0) ∧ w1.cell? ⟨b3, off3 + 4, none⟩ = some (.int .i64 y0.a)))
                (first | (with_reducible exact K0.out) | (with_reducible exact KB1.out) | (with_reducible exact KB2.out) | (with_reducible exact KB3.out))
                (first
                | (go_at_call 57; have HX := HT0.out _ BD.out; (with_reducible refine HX.mono ?_); clear HX; rintro e w_B1 ⟨rfl, hb⟩; have B1 := Lib.hid (thru BD.out hb); have KB1 := Lib.hid (HC.out _ B1.out); clear hb)
                | (go_at_call 34; have HX := HBA.out _ B1.out; (with_reducible refine HX.mono ?_); clear HX; rintro e w_B2 ⟨rfl, hb⟩; have B2 := Lib.hid (thru B1.out hb); have KB2 := Lib.hid (HC.out _ B2.out); have z9 := HC4.out _ B2.out; clear hb))
              all_goals go_wp2_with fail
              all_goals (
                go_meet
                exact ⟨_, rfl, Lib.hid (by rw [HLn.out, HX2.out]; simp [HO1.out, HD.out]), HQ.out _ B2.out⟩
              )
          · obtain ⟨y0, hxe⟩ : ∃ y, x.e = [y] := List.length_eq_one_iff.1 HNe.out
            obtain ⟨b3, off3, L0, rfl, hbB0, hat0, hk0, -, hr0⟩ := HE.out.at_ 0 y0 (by rw [hxe]; rfl)
            obtain ⟨B0, k0, rfl, -, -⟩ := hr0.slice
            have hw0 := wholeL_at HWe.out (i := 0) (x := y0) (by rw [hxe]; rfl)
            rw [wholeE_X, Bool.and_eq_true] at hw0
            obtain ⟨T0, hT0⟩ : ∃ T : ByteArray, T = ⟨(tE y0).toArray⟩ := ⟨_, rfl⟩
            have hTd0 : T0.data.toList = tE y0 := by rw [hT0]
            have hp0 : part0 (tL x.e) 0 = T0.data.toList := by rw [hTd0]; exact part0_some (by rw [hxe]; rfl)
            have HTX : Hid (textS Lib.itoa x d = stmtF ⟨#[119, 104, 105, 108, 101]⟩ x.nm (tL x.e) (textB Lib.itoa x.A (d + 1)) (textB Lib.itoa x.B (d + 1)) nb d) := Lib.hid (by rw [textS_X, HOp.out, HNb.out])
            have hx2 := HTX.out
            rw [stm_while] at hx2
            rw [hp0] at hx2
            obtain ⟨RA, hRA⟩ : ∃ T : ByteArray, T = ⟨(textB Lib.itoa x.A (d + 1)).toArray⟩ := ⟨_, rfl⟩
            have hRAd : RA.data.toList = textB Lib.itoa x.A (d + 1) := by rw [hRA]
            rw [← hRAd] at hx2
            unfold blockF at hx2
            have hsz := congrArg List.length hx2
            simp only [List.length_append, List.length_cons, List.length_nil, list_size_, ind_len] at hsz
            have fz0 : Fits (O1) (⟨#[119, 104, 105, 108, 101, 32]⟩ : ByteArray) := by unfold Fits; have c1 : (⟨#[119, 104, 105, 108, 101, 32]⟩ : ByteArray).size = 6 := rfl; have c3 : (⟨#[32, 123, 10]⟩ : ByteArray).size = 3 := rfl; have c6 : (⟨#[125, 10]⟩ : ByteArray).size = 2 := rfl; omega
            have fz1 : Fits (O1 ++ (⟨#[119, 104, 105, 108, 101, 32]⟩ : ByteArray)) T0 := by unfold Fits; simp only [ByteArray.size_append]; have c1 : (⟨#[119, 104, 105, 108, 101, 32]⟩ : ByteArray).size = 6 := rfl; have c3 : (⟨#[32, 123, 10]⟩ : ByteArray).size = 3 := rfl; have c6 : (⟨#[125, 10]⟩ : ByteArray).size = 2 := rfl; omega
            have fz2 : Fits (O1 ++ (⟨#[119, 104, 105, 108, 101, 32]⟩ : ByteArray) ++ T0) (⟨#[32, 123, 10]⟩ : ByteArray) := by unfold Fits; simp only [ByteArray.size_append]; have c1 : (⟨#[119, 104, 105, 108, 101, 32]⟩ : ByteArray).size = 6 := rfl; have c3 : (⟨#[32, 123, 10]⟩ : ByteArray).size = 3 := rfl; have c6 : (⟨#[125, 10]⟩ : ByteArray).size = 2 := rfl; omega
            have fz3 : Fits (O1 ++ (⟨#[119, 104, 105, 108, 101, 32]⟩ : ByteArray) ++ T0 ++ (⟨#[32, 123, 10]⟩ : ByteArray)) RA := by unfold Fits; simp only [ByteArray.size_append]; have c1 : (⟨#[119, 104, 105, 108, 101, 32]⟩ : ByteArray).size = 6 := rfl; have c3 : (⟨#[32, 123, 10]⟩ : ByteArray).size = 3 := rfl; have c6 : (⟨#[125, 10]⟩ : ByteArray).size = 2 := rfl; omega
            have fz4 : Fits (O1 ++ (⟨#[119, 104, 105, 108, 101, 32]⟩ : ByteArray) ++ T0 ++ (⟨#[32, 123, 10]⟩ : ByteArray) ++ RA) D := by unfold Fits; simp only [ByteArray.size_append]; have c1 : (⟨#[119, 104, 105, 108, 101, 32]⟩ : ByteArray).size = 6 := rfl; have c3 : (⟨#[32, 123, 10]⟩ : ByteArray).size = 3 := rfl; have c6 : (⟨#[125, 10]⟩ : ByteArray).size = 2 := rfl; omega
            have fz5 : Fits (O1 ++ (⟨#[119, 104, 105, 108, 101, 32]⟩ : ByteArray) ++ T0 ++ (⟨#[32, 123, 10]⟩ : ByteArray) ++ RA ++ D) (⟨#[125, 10]⟩ : ByteArray) := by unfold Fits; simp only [ByteArray.size_append]; have c1 : (⟨#[119, 104, 105, 108, 101, 32]⟩ : ByteArray).size = 6 := rfl; have c3 : (⟨#[32, 123, 10]⟩ : ByteArray).size = 3 := rfl; have c6 : (⟨#[125, 10]⟩ : ByteArray).size = 2 := rfl; omega
            have fd : Fits D (⟨#[32, 32]⟩ : ByteArray) := by unfold Fits; have c0 : (⟨#[32, 32]⟩ : ByteArray).size = 2 := rfl; omega
            have HT0 : Hid (∀ w1, Below W1.heap.size W1 w1 → Calls Tryd.prog 57 #[exV y0.op y0.nm y0.n (.slice B0 y0.l.length k0) y0.a] w1 fun e w' => e = .returned (.string T0) ∧ Below w1.heap.size w1 w') := Lib.hid fun w1 hb => by
              have q := HQ.out _ hb
              have r := (rtext_any (n - 1)).1 P y0.l _ y0.op y0.nm y0.n y0.a w1 (hr0.below q hP) (lo_up hP q.size) hk0 hw0.1 hw0.2 (by rw [← tE_form, ← hTd0, list_size_]; omega)
              rw [← tE_form, ← hT0] at r
              exact r
            have HBA : Hid (∀ w1, Below W1.heap.size W1 w1 → Calls Tryd.prog 34 #[.slice Aa na ca, .string (D ++ ⟨#[32, 32]⟩)] w1 fun e w' => e = .returned (.string RA) ∧ Below w1.heap.size w1 w') := Lib.hid fun w1 hb => by
              have q := HQ.out _ hb
              have r := HIH.out P x.A _ (d + 1) (D ++ ⟨#[32, 32]⟩) w1 (HSA.out.below q hP) (lo_up hP q.size) HWA.out (deeper HD.out) (by omega) (by rw [← hRAd, list_size_]; omega)
              rw [← hRA] at r
              exact r
            have HX2 := Lib.hid hx2
            have HC : Hid (∀ w1, Below W1.heap.size W1 w1 → (w1.cell? ⟨wr.heap.size, 2, none⟩ = some (.slice (some ⟨b3, off3, none⟩) 1 ce) ∧ w1.cell? ⟨wr.heap.size, 3, none⟩ = some (.slice Aa na ca)) ∧ (w1.cell? ⟨b3, off3, none⟩ = some (.string y0.op) ∧ w1.cell? ⟨b3, off3 + 1, none⟩ = some (.string y0.nm) ∧ w1.cell? ⟨b3, off3 + 2, none⟩ = some (.int .i64 y0.n) ∧ w1.cell? ⟨b3, off3 + 3, none⟩ = some (.slice B0 y0.l.length k0) ∧ w1.cell? ⟨b3, off3 + 4, none⟩ = some (.int .i64 y0.a))) := Lib.hid fun w1 hb => ⟨⟨(HK.out.below hb HK.out.lt).cell 2, (HK.out.below hb HK.out.lt).cell 3⟩, (hat0.below (HQ.out _ hb) (hP b3 hbB0))⟩
            have BD : Hid (Below W1.heap.size W1 W1.drew) := Lib.hid (Below.refl _ _).drew
            have K0 := Lib.hid (HC.out _ BD.out)
            clear hx2 hsz hT0 hTd0 hp0 hw0 hr0 hat0 hk0 hRA hRAd 
            try clear hxe
            go_wp2_with fail
            go_region_held3 (fun w1 => (w1.cell? ⟨wr.heap.size, 2, none⟩ = some (.slice (some ⟨b3, off3, none⟩) 1 ce) ∧ w1.cell? ⟨wr.heap.size, 3, none⟩ = some (.slice Aa na ca)) ∧ (w1.cell? ⟨b3, off3, none⟩ = some (.string y0.op) ∧ w1.cell? ⟨b3, off3 + 1, none⟩ = some (.string y0.nm) ∧ w1.cell? ⟨b3, off3 + 2, none⟩ = some (.int .i64 y0.n) ∧ w1.cell? ⟨b3, off3 + 3, none⟩ = some (.slice B0 y0.l.length k0) ∧ w1.cell? ⟨b3, off3 + 4, none⟩ = some (.int .i64 y0.a)))
              (first | (with_reducible exact K0.out) | (with_reducible exact KB1.out) | (with_reducible exact KB2.out) | (with_reducible exact KB3.out))
              (first
              | (go_at_call 57; have HX := HT0.out _ BD.out; (with_reducible refine HX.mono ?_); clear HX; rintro e w_B1 ⟨rfl, hb⟩; have B1 := Lib.hid (thru BD.out hb); have KB1 := Lib.hid (HC.out _ B1.out); clear hb)
              | (go_at_call 34; have HX := HBA.out _ B1.out; (with_reducible refine HX.mono ?_); clear HX; rintro e w_B2 ⟨rfl, hb⟩; have B2 := Lib.hid (thru B1.out hb); have KB2 := Lib.hid (HC.out _ B2.out); clear hb))
            all_goals go_wp2_with fail
            all_goals (
              go_meet
              exact ⟨_, rfl, Lib.hid (by rw [HLn.out, HX2.out]; simp [HO1.out, HD.out]), HQ.out _ B2.out⟩
            )
          · obtain ⟨y0, y1, hxe⟩ : ∃ y z, x.e = [y, z] := len_two HNe.out
            obtain ⟨b3, off3, L0, rfl, hbB0, hat0, hk0, -, hr0⟩ := HE.out.at_ 0 y0 (by rw [hxe]; rfl)
            obtain ⟨B0, k0, rfl, -, -⟩ := hr0.slice
            have hw0 := wholeL_at HWe.out (i := 0) (x := y0) (by rw [hxe]; rfl)
            rw [wholeE_X, Bool.and_eq_true] at hw0
            obtain ⟨T0, hT0⟩ : ∃ T : ByteArray, T = ⟨(tE y0).toArray⟩ := ⟨_, rfl⟩
            have hTd0 : T0.data.toList = tE y0 := by rw [hT0]
            have hp0 : part0 (tL x.e) 0 = T0.data.toList := by rw [hTd0]; exact part0_some (by rw [hxe]; rfl)
            obtain ⟨b4, off4, L1, hA1, -, hat1, hk1, -, hr1⟩ := HE.out.at_ 1 y1 (by rw [hxe]; rfl)
            injection hA1 with hA1
            injection hA1 with hA1 hA2
            subst hA1
            subst hA2
            obtain ⟨B1, k1, rfl, -, -⟩ := hr1.slice
            have hw1 := wholeL_at HWe.out (i := 1) (x := y1) (by rw [hxe]; rfl)
            rw [wholeE_X, Bool.and_eq_true] at hw1
            obtain ⟨T1, hT1⟩ : ∃ T : ByteArray, T = ⟨(tE y1).toArray⟩ := ⟨_, rfl⟩
            have hTd1 : T1.data.toList = tE y1 := by rw [hT1]
            have hp1 : part0 (tL x.e) 1 = T1.data.toList := by rw [hTd1]; exact part0_some (by rw [hxe]; rfl)
            have HTX : Hid (textS Lib.itoa x d = stmtF ⟨#[112, 117, 116]⟩ x.nm (tL x.e) (textB Lib.itoa x.A (d + 1)) (textB Lib.itoa x.B (d + 1)) nb d) := Lib.hid (by rw [textS_X, HOp.out, HNb.out])
            have hx2 := HTX.out
            rw [stm_put] at hx2
            rw [hp0, hp1] at hx2
            have hsz := congrArg List.length hx2
            simp only [List.length_append, List.length_cons, List.length_nil, list_size_] at hsz
            have fz0 : Fits (O1) x.nm := by unfold Fits; have c2 : (⟨#[91]⟩ : ByteArray).size = 1 := rfl; have c4 : (⟨#[93, 32, 61, 32]⟩ : ByteArray).size = 4 := rfl; have c6 : (⟨#[59, 10]⟩ : ByteArray).size = 2 := rfl; omega
            have fz1 : Fits (O1 ++ x.nm) (⟨#[91]⟩ : ByteArray) := by unfold Fits; simp only [ByteArray.size_append]; have c2 : (⟨#[91]⟩ : ByteArray).size = 1 := rfl; have c4 : (⟨#[93, 32, 61, 32]⟩ : ByteArray).size = 4 := rfl; have c6 : (⟨#[59, 10]⟩ : ByteArray).size = 2 := rfl; omega
            have fz2 : Fits (O1 ++ x.nm ++ (⟨#[91]⟩ : ByteArray)) T0 := by unfold Fits; simp only [ByteArray.size_append]; have c2 : (⟨#[91]⟩ : ByteArray).size = 1 := rfl; have c4 : (⟨#[93, 32, 61, 32]⟩ : ByteArray).size = 4 := rfl; have c6 : (⟨#[59, 10]⟩ : ByteArray).size = 2 := rfl; omega
            have fz3 : Fits (O1 ++ x.nm ++ (⟨#[91]⟩ : ByteArray) ++ T0) (⟨#[93, 32, 61, 32]⟩ : ByteArray) := by unfold Fits; simp only [ByteArray.size_append]; have c2 : (⟨#[91]⟩ : ByteArray).size = 1 := rfl; have c4 : (⟨#[93, 32, 61, 32]⟩ : ByteArray).size = 4 := rfl; have c6 : (⟨#[59, 10]⟩ : ByteArray).size = 2 := rfl; omega
            have fz4 : Fits (O1 ++ x.nm ++ (⟨#[91]⟩ : ByteArray) ++ T0 ++ (⟨#[93, 32, 61, 32]⟩ : ByteArray)) T1 := by unfold Fits; simp only [ByteArray.size_append]; have c2 : (⟨#[91]⟩ : ByteArray).size = 1 := rfl; have c4 : (⟨#[93, 32, 61, 32]⟩ : ByteArray).size = 4 := rfl; have c6 : (⟨#[59, 10]⟩ : ByteArray).size = 2 := rfl; omega
            have fz5 : Fits (O1 ++ x.nm ++ (⟨#[91]⟩ : ByteArray) ++ T0 ++ (⟨#[93, 32, 61, 32]⟩ : ByteArray) ++ T1) (⟨#[59, 10]⟩ : ByteArray) := by unfold Fits; simp only [ByteArray.size_append]; have c2 : (⟨#[91]⟩ : ByteArray).size = 1 := rfl; have c4 : (⟨#[93, 32, 61, 32]⟩ : ByteArray).size = 4 := rfl; have c6 : (⟨#[59, 10]⟩ : ByteArray).size = 2 := rfl; omega
            have HT0 : Hid (∀ w1, Below W1.heap.size W1 w1 → Calls Tryd.prog 57 #[exV y0.op y0.nm y0.n (.slice B0 y0.l.length k0) y0.a] w1 fun e w' => e = .returned (.string T0) ∧ Below w1.heap.size w1 w') := Lib.hid fun w1 hb => by
              have q := HQ.out _ hb
              have r := (rtext_any (n - 1)).1 P y0.l _ y0.op y0.nm y0.n y0.a w1 (hr0.below q hP) (lo_up hP q.size) hk0 hw0.1 hw0.2 (by rw [← tE_form, ← hTd0, list_size_]; omega)
              rw [← tE_form, ← hT0] at r
              exact r
            have HT1 : Hid (∀ w1, Below W1.heap.size W1 w1 → Calls Tryd.prog 57 #[exV y1.op y1.nm y1.n (.slice B1 y1.l.length k1) y1.a] w1 fun e w' => e = .returned (.string T1) ∧ Below w1.heap.size w1 w') := Lib.hid fun w1 hb => by
              have q := HQ.out _ hb
              have r := (rtext_any (n - 1)).1 P y1.l _ y1.op y1.nm y1.n y1.a w1 (hr1.below q hP) (lo_up hP q.size) hk1 hw1.1 hw1.2 (by rw [← tE_form, ← hTd1, list_size_]; omega)
              rw [← tE_form, ← hT1] at r
              exact r
            have HX2 := Lib.hid hx2
            have HC : Hid (∀ w1, Below W1.heap.size W1 w1 → (w1.cell? ⟨wr.heap.size, 1, none⟩ = some (.string x.nm) ∧ w1.cell? ⟨wr.heap.size, 2, none⟩ = some (.slice (some ⟨b3, off3, none⟩) 2 ce)) ∧ (w1.cell? ⟨b3, off3, none⟩ = some (.string y0.op) ∧ w1.cell? ⟨b3, off3 + 1, none⟩ = some (.string y0.nm) ∧ w1.cell? ⟨b3, off3 + 2, none⟩ = some (.int .i64 y0.n) ∧ w1.cell? ⟨b3, off3 + 3, none⟩ = some (.slice B0 y0.l.length k0) ∧ w1.cell? ⟨b3, off3 + 4, none⟩ = some (.int .i64 y0.a)) ∧ (w1.cell? ⟨b3, off3 + 5, none⟩ = some (.string y1.op) ∧ w1.cell? ⟨b3, off3 + 6, none⟩ = some (.string y1.nm) ∧ w1.cell? ⟨b3, off3 + 7, none⟩ = some (.int .i64 y1.n) ∧ w1.cell? ⟨b3, off3 + 8, none⟩ = some (.slice B1 y1.l.length k1) ∧ w1.cell? ⟨b3, off3 + 9, none⟩ = some (.int .i64 y1.a))) := Lib.hid fun w1 hb => ⟨⟨(HK.out.below hb HK.out.lt).cell 1, (HK.out.below hb HK.out.lt).cell 2⟩, (hat0.below (HQ.out _ hb) (hP b3 hbB0)), (hat1.below (HQ.out _ hb) (hP b3 hbB0))⟩
            have BD : Hid (Below W1.heap.size W1 W1.drew) := Lib.hid (Below.refl _ _).drew
            have K0 := Lib.hid (HC.out _ BD.out)
            clear hx2 hsz hT0 hTd0 hp0 hw0 hr0 hat0 hk0 hT1 hTd1 hp1 hw1 hr1 hat1 hk1
            try clear hxe
            go_wp2_with fail
            go_region_held3 (fun w1 => (w1.cell? ⟨wr.heap.size, 1, none⟩ = some (.string x.nm) ∧ w1.cell? ⟨wr.heap.size, 2, none⟩ = some (.slice (some ⟨b3, off3, none⟩) 2 ce)) ∧ (w1.cell? ⟨b3, off3, none⟩ = some (.string y0.op) ∧ w1.cell? ⟨b3, off3 + 1, none⟩ = some (.string y0.nm) ∧ w1.cell? ⟨b3, off3 + 2, none⟩ = some (.int .i64 y0.n) ∧ w1.cell? ⟨b3, off3 + 3, none⟩ = some (.slice B0 y0.l.length k0) ∧ w1.cell? ⟨b3, off3 + 4, none⟩ = some (.int .i64 y0.a)) ∧ (w1.cell? ⟨b3, off3 + 5, none⟩ = some (.string y1.op) ∧ w1.cell? ⟨b3, off3 + 6, none⟩ = some (.string y1.nm) ∧ w1.cell? ⟨b3, off3 + 7, none⟩ = some (.int .i64 y1.n) ∧ w1.cell? ⟨b3, off3 + 8, none⟩ = some (.slice B1 y1.l.length k1) ∧ w1.cell? ⟨b3, off3 + 9, none⟩ = some (.int .i64 y1.a)))
              (first | (with_reducible exact K0.out) | (with_reducible exact KB1.out) | (with_reducible exact KB2.out) | (with_reducible exact KB3.out))
              (first
              | (go_at_call 57; have HX := HT0.out _ BD.out; (with_reducible refine HX.mono ?_); clear HX; rintro e w_B1 ⟨rfl, hb⟩; have B1 := Lib.hid (thru BD.out hb); have KB1 := Lib.hid (HC.out _ B1.out); clear hb)
              | (go_at_call 57; have HX := HT1.out _ B1.out; (with_reducible refine HX.mono ?_); clear HX; rintro e w_B2 ⟨rfl, hb⟩; have B2 := Lib.hid (thru B1.out hb); have KB2 := Lib.hid (HC.out _ B2.out); clear hb))
            all_goals go_wp2_with fail
            all_goals (
              go_meet
              exact ⟨_, rfl, Lib.hid (by rw [HLn.out, HX2.out]; simp [HO1.out]), HQ.out _ B2.out⟩
            )
          · obtain ⟨y0, y1, hxe⟩ : ∃ y z, x.e = [y, z] := len_two HNe.out
            obtain ⟨b3, off3, L0, rfl, hbB0, hat0, hk0, -, hr0⟩ := HE.out.at_ 0 y0 (by rw [hxe]; rfl)
            obtain ⟨B0, k0, rfl, -, -⟩ := hr0.slice
            have hw0 := wholeL_at HWe.out (i := 0) (x := y0) (by rw [hxe]; rfl)
            rw [wholeE_X, Bool.and_eq_true] at hw0
            obtain ⟨T0, hT0⟩ : ∃ T : ByteArray, T = ⟨(tE y0).toArray⟩ := ⟨_, rfl⟩
            have hTd0 : T0.data.toList = tE y0 := by rw [hT0]
            have hp0 : part0 (tL x.e) 0 = T0.data.toList := by rw [hTd0]; exact part0_some (by rw [hxe]; rfl)
            obtain ⟨b4, off4, L1, hA1, -, hat1, hk1, -, hr1⟩ := HE.out.at_ 1 y1 (by rw [hxe]; rfl)
            injection hA1 with hA1
            injection hA1 with hA1 hA2
            subst hA1
            subst hA2
            obtain ⟨B1, k1, rfl, -, -⟩ := hr1.slice
            have hw1 := wholeL_at HWe.out (i := 1) (x := y1) (by rw [hxe]; rfl)
            rw [wholeE_X, Bool.and_eq_true] at hw1
            obtain ⟨T1, hT1⟩ : ∃ T : ByteArray, T = ⟨(tE y1).toArray⟩ := ⟨_, rfl⟩
            have hTd1 : T1.data.toList = tE y1 := by rw [hT1]
            have hp1 : part0 (tL x.e) 1 = T1.data.toList := by rw [hTd1]; exact part0_some (by rw [hxe]; rfl)
            have HTX : Hid (textS Lib.itoa x d = stmtF ⟨#[105, 110, 112, 117, 116]⟩ x.nm (tL x.e) (textB Lib.itoa x.A (d + 1)) (textB Lib.itoa x.B (d + 1)) nb d) := Lib.hid (by rw [textS_X, HOp.out, HNb.out])
            have hx2 := HTX.out
            rw [stm_input, show endsF (tL x.e) = [40] ++ part0 (tL x.e) 0 ++ [44, 32] ++ part0 (tL x.e) 1 ++ [41] by rw [hxe]; rfl] at hx2
            rw [hp0, hp1] at hx2
            have hsz := congrArg List.length hx2
            simp only [List.length_append, List.length_cons, List.length_nil, list_size_] at hsz
            have fz0 : Fits (O1) x.nm := by unfold Fits; have c2 : (⟨#[32, 61, 32, 105, 110, 112, 117, 116]⟩ : ByteArray).size = 8 := rfl; have c3 : (⟨#[40]⟩ : ByteArray).size = 1 := rfl; have c5 : (⟨#[44, 32]⟩ : ByteArray).size = 2 := rfl; have c7 : (⟨#[41]⟩ : ByteArray).size = 1 := rfl; have c8 : (⟨#[59, 10]⟩ : ByteArray).size = 2 := rfl; omega
            have fz1 : Fits (O1 ++ x.nm) (⟨#[32, 61, 32, 105, 110, 112, 117, 116]⟩ : ByteArray) := by unfold Fits; simp only [ByteArray.size_append]; have c2 : (⟨#[32, 61, 32, 105, 110, 112, 117, 116]⟩ : ByteArray).size = 8 := rfl; have c3 : (⟨#[40]⟩ : ByteArray).size = 1 := rfl; have c5 : (⟨#[44, 32]⟩ : ByteArray).size = 2 := rfl; have c7 : (⟨#[41]⟩ : ByteArray).size = 1 := rfl; have c8 : (⟨#[59, 10]⟩ : ByteArray).size = 2 := rfl; omega
            have fz2 : Fits (O1 ++ x.nm ++ (⟨#[32, 61, 32, 105, 110, 112, 117, 116]⟩ : ByteArray)) (⟨#[40]⟩ : ByteArray) := by unfold Fits; simp only [ByteArray.size_append]; have c2 : (⟨#[32, 61, 32, 105, 110, 112, 117, 116]⟩ : ByteArray).size = 8 := rfl; have c3 : (⟨#[40]⟩ : ByteArray).size = 1 := rfl; have c5 : (⟨#[44, 32]⟩ : ByteArray).size = 2 := rfl; have c7 : (⟨#[41]⟩ : ByteArray).size = 1 := rfl; have c8 : (⟨#[59, 10]⟩ : ByteArray).size = 2 := rfl; omega
            have fz3 : Fits (O1 ++ x.nm ++ (⟨#[32, 61, 32, 105, 110, 112, 117, 116]⟩ : ByteArray) ++ (⟨#[40]⟩ : ByteArray)) T0 := by unfold Fits; simp only [ByteArray.size_append]; have c2 : (⟨#[32, 61, 32, 105, 110, 112, 117, 116]⟩ : ByteArray).size = 8 := rfl; have c3 : (⟨#[40]⟩ : ByteArray).size = 1 := rfl; have c5 : (⟨#[44, 32]⟩ : ByteArray).size = 2 := rfl; have c7 : (⟨#[41]⟩ : ByteArray).size = 1 := rfl; have c8 : (⟨#[59, 10]⟩ : ByteArray).size = 2 := rfl; omega
            have fz4 : Fits (O1 ++ x.nm ++ (⟨#[32, 61, 32, 105, 110, 112, 117, 116]⟩ : ByteArray) ++ (⟨#[40]⟩ : ByteArray) ++ T0) (⟨#[44, 32]⟩ : ByteArray) := by unfold Fits; simp only [ByteArray.size_append]; have c2 : (⟨#[32, 61, 32, 105, 110, 112, 117, 116]⟩ : ByteArray).size = 8 := rfl; have c3 : (⟨#[40]⟩ : ByteArray).size = 1 := rfl; have c5 : (⟨#[44, 32]⟩ : ByteArray).size = 2 := rfl; have c7 : (⟨#[41]⟩ : ByteArray).size = 1 := rfl; have c8 : (⟨#[59, 10]⟩ : ByteArray).size = 2 := rfl; omega
            have fz5 : Fits (O1 ++ x.nm ++ (⟨#[32, 61, 32, 105, 110, 112, 117, 116]⟩ : ByteArray) ++ (⟨#[40]⟩ : ByteArray) ++ T0 ++ (⟨#[44, 32]⟩ : ByteArray)) T1 := by unfold Fits; simp only [ByteArray.size_append]; have c2 : (⟨#[32, 61, 32, 105, 110, 112, 117, 116]⟩ : ByteArray).size = 8 := rfl; have c3 : (⟨#[40]⟩ : ByteArray).size = 1 := rfl; have c5 : (⟨#[44, 32]⟩ : ByteArray).size = 2 := rfl; have c7 : (⟨#[41]⟩ : ByteArray).size = 1 := rfl; have c8 : (⟨#[59, 10]⟩ : ByteArray).size = 2 := rfl; omega
            have fz6 : Fits (O1 ++ x.nm ++ (⟨#[32, 61, 32, 105, 110, 112, 117, 116]⟩ : ByteArray) ++ (⟨#[40]⟩ : ByteArray) ++ T0 ++ (⟨#[44, 32]⟩ : ByteArray) ++ T1) (⟨#[41]⟩ : ByteArray) := by unfold Fits; simp only [ByteArray.size_append]; have c2 : (⟨#[32, 61, 32, 105, 110, 112, 117, 116]⟩ : ByteArray).size = 8 := rfl; have c3 : (⟨#[40]⟩ : ByteArray).size = 1 := rfl; have c5 : (⟨#[44, 32]⟩ : ByteArray).size = 2 := rfl; have c7 : (⟨#[41]⟩ : ByteArray).size = 1 := rfl; have c8 : (⟨#[59, 10]⟩ : ByteArray).size = 2 := rfl; omega
            have fz7 : Fits (O1 ++ x.nm ++ (⟨#[32, 61, 32, 105, 110, 112, 117, 116]⟩ : ByteArray) ++ (⟨#[40]⟩ : ByteArray) ++ T0 ++ (⟨#[44, 32]⟩ : ByteArray) ++ T1 ++ (⟨#[41]⟩ : ByteArray)) (⟨#[59, 10]⟩ : ByteArray) := by unfold Fits; simp only [ByteArray.size_append]; have c2 : (⟨#[32, 61, 32, 105, 110, 112, 117, 116]⟩ : ByteArray).size = 8 := rfl; have c3 : (⟨#[40]⟩ : ByteArray).size = 1 := rfl; have c5 : (⟨#[44, 32]⟩ : ByteArray).size = 2 := rfl; have c7 : (⟨#[41]⟩ : ByteArray).size = 1 := rfl; have c8 : (⟨#[59, 10]⟩ : ByteArray).size = 2 := rfl; omega
            have HT0 : Hid (∀ w1, Below W1.heap.size W1 w1 → Calls Tryd.prog 57 #[exV y0.op y0.nm y0.n (.slice B0 y0.l.length k0) y0.a] w1 fun e w' => e = .returned (.string T0) ∧ Below w1.heap.size w1 w') := Lib.hid fun w1 hb => by
              have q := HQ.out _ hb
              have r := (rtext_any (n - 1)).1 P y0.l _ y0.op y0.nm y0.n y0.a w1 (hr0.below q hP) (lo_up hP q.size) hk0 hw0.1 hw0.2 (by rw [← tE_form, ← hTd0, list_size_]; omega)
              rw [← tE_form, ← hT0] at r
              exact r
            have HT1 : Hid (∀ w1, Below W1.heap.size W1 w1 → Calls Tryd.prog 57 #[exV y1.op y1.nm y1.n (.slice B1 y1.l.length k1) y1.a] w1 fun e w' => e = .returned (.string T1) ∧ Below w1.heap.size w1 w') := Lib.hid fun w1 hb => by
              have q := HQ.out _ hb
              have r := (rtext_any (n - 1)).1 P y1.l _ y1.op y1.nm y1.n y1.a w1 (hr1.below q hP) (lo_up hP q.size) hk1 hw1.1 hw1.2 (by rw [← tE_form, ← hTd1, list_size_]; omega)
              rw [← tE_form, ← hT1] at r
              exact r
            have HX2 := Lib.hid hx2
            have HC : Hid (∀ w1, Below W1.heap.size W1 w1 → (w1.cell? ⟨wr.heap.size, 2, none⟩ = some (.slice (some ⟨b3, off3, none⟩) 2 ce)) ∧ (w1.cell? ⟨b3, off3, none⟩ = some (.string y0.op) ∧ w1.cell? ⟨b3, off3 + 1, none⟩ = some (.string y0.nm) ∧ w1.cell? ⟨b3, off3 + 2, none⟩ = some (.int .i64 y0.n) ∧ w1.cell? ⟨b3, off3 + 3, none⟩ = some (.slice B0 y0.l.length k0) ∧ w1.cell? ⟨b3, off3 + 4, none⟩ = some (.int .i64 y0.a)) ∧ (w1.cell? ⟨b3, off3 + 5, none⟩ = some (.string y1.op) ∧ w1.cell? ⟨b3, off3 + 6, none⟩ = some (.string y1.nm) ∧ w1.cell? ⟨b3, off3 + 7, none⟩ = some (.int .i64 y1.n) ∧ w1.cell? ⟨b3, off3 + 8, none⟩ = some (.slice B1 y1.l.length k1) ∧ w1.cell? ⟨b3, off3 + 9, none⟩ = some (.int .i64 y1.a))) := Lib.hid fun w1 hb => ⟨(HK.out.below hb HK.out.lt).cell 2, (hat0.below (HQ.out _ hb) (hP b3 hbB0)), (hat1.below (HQ.out _ hb) (hP b3 hbB0))⟩
            have BD : Hid (Below W1.heap.size W1 W1.drew) := Lib.hid (Below.refl _ _).drew
            have K0 := Lib.hid (HC.out _ BD.out)
            clear hx2 hsz hT0 hTd0 hp0 hw0 hr0 hat0 hk0 hT1 hTd1 hp1 hw1 hr1 hat1 hk1
            try clear hxe
            go_wp2_with fail
            go_region_held3 (fun w1 => (w1.cell? ⟨wr.heap.size, 2, none⟩ = some (.slice (some ⟨b3, off3, none⟩) 2 ce)) ∧ (w1.cell? ⟨b3, off3, none⟩ = some (.string y0.op) ∧ w1.cell? ⟨b3, off3 + 1, none⟩ = some (.string y0.nm) ∧ w1.cell? ⟨b3, off3 + 2, none⟩ = some (.int .i64 y0.n) ∧ w1.cell? ⟨b3, off3 + 3, none⟩ = some (.slice B0 y0.l.length k0) ∧ w1.cell? ⟨b3, off3 + 4, none⟩ = some (.int .i64 y0.a)) ∧ (w1.cell? ⟨b3, off3 + 5, none⟩ = some (.string y1.op) ∧ w1.cell? ⟨b3, off3 + 6, none⟩ = some (.string y1.nm) ∧ w1.cell? ⟨b3, off3 + 7, none⟩ = some (.int .i64 y1.n) ∧ w1.cell? ⟨b3, off3 + 8, none⟩ = some (.slice B1 y1.l.length k1) ∧ w1.cell? ⟨b3, off3 + 9, none⟩ = some (.int .i64 y1.a)))
              (first | (with_reducible exact K0.out) | (with_reducible exact KB1.out) | (with_reducible exact KB2.out) | (with_reducible exact KB3.out))
              (first
              | (go_at_call 57; have HX := HT0.out _ BD.out; (with_reducible refine HX.mono ?_); clear HX; rintro e w_B1 ⟨rfl, hb⟩; have B1 := Lib.hid (thru BD.out hb); have KB1 := Lib.hid (HC.out _ B1.out); clear hb)
              | (go_at_call 57; have HX := HT1.out _ B1.out; (with_reducible refine HX.mono ?_); clear HX; rintro e w_B2 ⟨rfl, hb⟩; have B2 := Lib.hid (thru B1.out hb); have KB2 := Lib.hid (HC.out _ B2.out); clear hb))
            all_goals go_wp2_with fail
            all_goals (
              go_meet
              exact ⟨_, rfl, Lib.hid (by rw [HLn.out, HX2.out]; simp [HO1.out]), HQ.out _ B2.out⟩
            )
          · subst hne0
            have hxe : x.e = [] := List.length_eq_zero_iff.1 HNe.out
            have HTX : Hid (textS Lib.itoa x d = stmtF ⟨#[105, 110, 112, 117, 116]⟩ x.nm (tL x.e) (textB Lib.itoa x.A (d + 1)) (textB Lib.itoa x.B (d + 1)) nb d) := Lib.hid (by rw [textS_X, HOp.out, HNb.out])
            have hx2 := HTX.out
            rw [stm_input, show endsF (tL x.e) = [] by rw [hxe]; rfl] at hx2
            have hsz := congrArg List.length hx2
            simp only [List.length_append, List.length_cons, List.length_nil, list_size_] at hsz
            have fz0 : Fits (O1) x.nm := by unfold Fits; have c2 : (⟨#[32, 61, 32, 105, 110, 112, 117, 116]⟩ : ByteArray).size = 8 := rfl; have c3 : (⟨#[59, 10]⟩ : ByteArray).size = 2 := rfl; omega
            have fz1 : Fits (O1 ++ x.nm) (⟨#[32, 61, 32, 105, 110, 112, 117, 116]⟩ : ByteArray) := by unfold Fits; simp only [ByteArray.size_append]; have c2 : (⟨#[32, 61, 32, 105, 110, 112, 117, 116]⟩ : ByteArray).size = 8 := rfl; have c3 : (⟨#[59, 10]⟩ : ByteArray).size = 2 := rfl; omega
            have fz2 : Fits (O1 ++ x.nm ++ (⟨#[32, 61, 32, 105, 110, 112, 117, 116]⟩ : ByteArray)) (⟨#[59, 10]⟩ : ByteArray) := by unfold Fits; simp only [ByteArray.size_append]; have c2 : (⟨#[32, 61, 32, 105, 110, 112, 117, 116]⟩ : ByteArray).size = 8 := rfl; have c3 : (⟨#[59, 10]⟩ : ByteArray).size = 2 := rfl; omega
            have HX2 := Lib.hid hx2
            clear hx2 hsz 
            try clear hxe
            go_wp2_with fail
            go_meet
            exact ⟨_, rfl, Lib.hid (by rw [HLn.out, HX2.out]; simp [HO1.out]), HQ.out _ D0.out⟩
          · have hxe : x.e = [] := List.length_eq_zero_iff.1 HNe.out
            have HTX : Hid (textS Lib.itoa x d = stmtF ⟨#[99, 97, 108, 108]⟩ x.nm (tL x.e) (textB Lib.itoa x.A (d + 1)) (textB Lib.itoa x.B (d + 1)) nb d) := Lib.hid (by rw [textS_X, HOp.out, HNb.out])
            have hx2 := HTX.out
            rw [stm_call] at hx2
            have hsz := congrArg List.length hx2
            simp only [List.length_append, List.length_cons, List.length_nil, list_size_] at hsz
            have fz0 : Fits (O1) (⟨#[99, 97, 108, 108, 32]⟩ : ByteArray) := by unfold Fits; have c1 : (⟨#[99, 97, 108, 108, 32]⟩ : ByteArray).size = 5 := rfl; have c3 : (⟨#[59, 10]⟩ : ByteArray).size = 2 := rfl; omega
            have fz1 : Fits (O1 ++ (⟨#[99, 97, 108, 108, 32]⟩ : ByteArray)) x.nm := by unfold Fits; simp only [ByteArray.size_append]; have c1 : (⟨#[99, 97, 108, 108, 32]⟩ : ByteArray).size = 5 := rfl; have c3 : (⟨#[59, 10]⟩ : ByteArray).size = 2 := rfl; omega
            have fz2 : Fits (O1 ++ (⟨#[99, 97, 108, 108, 32]⟩ : ByteArray) ++ x.nm) (⟨#[59, 10]⟩ : ByteArray) := by unfold Fits; simp only [ByteArray.size_append]; have c1 : (⟨#[99, 97, 108, 108, 32]⟩ : ByteArray).size = 5 := rfl; have c3 : (⟨#[59, 10]⟩ : ByteArray).size = 2 := rfl; omega
            have HX2 := Lib.hid hx2
            clear hx2 hsz 
            try clear hxe
            go_wp2_with fail
            go_meet
            exact ⟨_, rfl, Lib.hid (by rw [HLn.out, HX2.out]; simp [HO1.out]), HQ.out _ D0.out⟩
          · have hxe : x.e = [] := List.length_eq_zero_iff.1 HNe.out
            have HTX : Hid (textS Lib.itoa x d = stmtF ⟨#[115, 107, 105, 112]⟩ x.nm (tL x.e) (textB Lib.itoa x.A (d + 1)) (textB Lib.itoa x.B (d + 1)) nb d) := Lib.hid (by rw [textS_X, HOp.out, HNb.out])
            have hx2 := HTX.out
            rw [stm_skip] at hx2
            have hsz := congrArg List.length hx2
            simp only [List.length_append, List.length_cons, List.length_nil] at hsz
            have fz0 : Fits (O1) (⟨#[115, 107, 105, 112, 59, 10]⟩ : ByteArray) := by unfold Fits; have c1 : (⟨#[115, 107, 105, 112, 59, 10]⟩ : ByteArray).size = 6 := rfl; omega
            have HX2 := Lib.hid hx2
            clear hx2 hsz 
            try clear hxe
            go_wp2_with fail
            go_meet
            exact ⟨_, rfl, Lib.hid (by rw [HLn.out, HX2.out]; simp [HO1.out]), HQ.out _ D0.out⟩
        case rest =>
          obtain ⟨O2, rfl, HO2, hb2⟩ := hcut
          have HQ2 := Lib.hid hb2
          clear hb2 y0 y1 y2 y3 y4 y5
          go_wp2_with fail
          go_roundw
          case rel => exact ⟨k + 1, O2, rfl, by go_num, hlt, HO2, HQ2.out⟩
          case measure => simp [RowKit.intOf]; omega
      · have he : k = m := by omega
        subst he
        have HZ : Hid (O.data.toList = textB Lib.itoa l d) := Lib.hid (by rw [HO.out, ← HM.out, List.take_length])
        go_wp2_with fail
        go_ret
        exact ⟨ret_str (by rw [HZ.out]), HBw.out⟩
end
end Go.Proofs.YtklfcjimgnnlfaaDoor
