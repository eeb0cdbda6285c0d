/- Put together of: TrDig, TrRefM, TrRefT, TrRefWm, TrWhM. -/
import Derived.Test.YteaongdlbleehaaGreatDoorTrSized
import Derived.WideShapes
import Derived.Lib.ItoaNum
import Derived.Lib.ItoaLen
import Derived.Deep.RegionHeld3
import Derived.Deep.DeepCutAuto
import Derived.Test.YteaongdlbleehaaGreatDoorGTrPg
import Derived.Deep.CutBlock
/- The tree layer: the document's digits. -/
namespace Go.Proofs.YteaongdlbleehaaGreatDoor
open Go.RowKit

/-- The digits of a number that is not below 0. -/
def digS (n : Int) : ByteArray := ⟨(Lib.decDigits n.toNat).toArray⟩

theorem piece_fin : ∀ i : Fin 10, (⟨#[48, 49, 50, 51, 52, 53, 54, 55, 56, 57]⟩ : ByteArray).extract i.val (i.val + 1) = ⟨#[UInt8.ofNat (48 + i.val)]⟩ := by decide +kernel
theorem digS_one (n : Nat) (h : n < 10) : (⟨#[48, 49, 50, 51, 52, 53, 54, 55, 56, 57]⟩ : ByteArray).extract n (n + 1) = digS n := by
  rw [piece_fin ⟨n, h⟩]
  unfold digS
  rw [Int.toNat_natCast, Lib.decDigits_one h]
theorem digS_more (n : Int) (h : 10 ≤ n) : digS (n / 10) ++ digS (n % 10) = digS n := by
  have e : Lib.decDigits n.toNat = Lib.decDigits (n / 10).toNat ++ Lib.decDigits (n % 10).toNat := by
    conv => lhs; rw [Lib.decDigits, dif_neg (show ¬ n.toNat < 10 by omega)]
    rw [Lib.decDigits_one (show (n % 10).toNat < 10 by omega), show (n / 10).toNat = n.toNat / 10 by omega, show (n % 10).toNat = n.toNat % 10 by omega]
  unfold digS
  rw [e]
  apply WideShapes.bytes_inj
  simp
theorem digS_size (n : Int) (h : n ≤ 9223372036854775807) : (digS n).size ≤ 20 := by
  show (Lib.decDigits n.toNat).toArray.size ≤ 20
  rw [List.size_toArray, Lib.decDigits_length]
  exact Lib.nDigits_le20 _ (by omega)

theorem digits_one (n : Nat) (w : World) (h : n < 10) : Calls Tryz.prog 55 #[.int .i64 n] w fun e w' => e = .returned (.string (digS n)) ∧ w = w' := by
  have HD := Lib.hid (digS_one n h)
  go_enter Tryz.func55, Tryz.ntmps55
  go_wp2_with fail
  go_ret
  exact ⟨congrArg (fun s => Ending.returned (.string s)) HD.out, rfl⟩

set_option maxHeartbeats 1000000 in
theorem digits_any (k : Nat) : ∀ (n : Int) (w : World), 0 ≤ n → n ≤ 9223372036854775807 → n < k → Calls Tryz.prog 55 #[.int .i64 n] w fun e w' => e = .returned (.string (digS n)) ∧ w = w' := by
  induction k with
  | zero => intro n w h0 _ h1; omega
  | succ k ih =>
    intro n w h0 h2 h1
    by_cases h : n < 10
    · obtain ⟨m, rfl⟩ := Int.eq_ofNat_of_zero_le h0
      exact digits_one m w (by omega)
    · have HI := Lib.hid ih
      clear ih
      have z1 := digS_size (n / 10) (by omega)
      have z2 := digS_size (n % 10) (by omega)
      go_enter Tryz.func55, Tryz.ntmps55
      go_wp2_with (go_at_call 55; refine (HI.out _ _ (by omega) (by omega) (by omega)).mono ?_; rintro e w' ⟨rfl, rfl⟩)
      go_ret
      exact ⟨congrArg (fun s => Ending.returned (.string s)) (digS_more n h), rfl⟩

theorem itoa_neg {n : Int} (h : n < 0) : (⟨#[45]⟩ : ByteArray) ++ digS (-n) = ⟨(Lib.itoa n).toArray⟩ := by
  unfold digS Lib.itoa
  rw [if_pos h, show (-n).toNat = n.natAbs by omega]
  apply WideShapes.bytes_inj
  simp
theorem itoa_pos {n : Int} (h : ¬ n < 0) : digS n = ⟨(Lib.itoa n).toArray⟩ := by
  unfold digS Lib.itoa
  rw [if_neg h]

set_option maxHeartbeats 1000000 in
theorem rdigits_any (n : Int) (w : World) (h0 : -9223372036854775808 < n) (h1 : n ≤ 9223372036854775807) : Calls Tryz.prog 24 #[.int .i64 n] w fun e w' => e = .returned (.string ⟨(Lib.itoa n).toArray⟩) ∧ w = w' := by
  by_cases h : n < 0
  · have HI := Lib.hid (itoa_neg h)
    have HD := Lib.hid (digits_any ((-n).toNat + 1) (-n) w (by omega) (by omega) (by omega))
    have z := digS_size (-n) (by omega)
    go_enter Tryz.func24, Tryz.ntmps24
    go_wp2_with (go_at_call 55; refine HD.out.mono ?_; rintro e w' ⟨rfl, rfl⟩)
    go_ret
    exact ⟨congrArg (fun s => Ending.returned (.string s)) HI.out, rfl⟩
  · have HI := Lib.hid (itoa_pos h)
    have HD := Lib.hid (digits_any (n.toNat + 1) n w (by omega) (by omega) (by omega))
    go_enter Tryz.func24, Tryz.ntmps24
    go_wp2_with (go_at_call 55; refine HD.out.mono ?_; rintro e w' ⟨rfl, rfl⟩)
    go_ret
    exact ⟨congrArg (fun s => Ending.returned (.string s)) HI.out, rfl⟩

end Go.Proofs.YteaongdlbleehaaGreatDoor

/- The tree layer: the document's expression: has it what it must; its text. -/
namespace Go.Proofs.YteaongdlbleehaaGreatDoor
open Go.RowKit
def simpleO (o : ByteArray) : Bool := (o.toList == oNum) || ((o.toList == oName) || ((o.toList == oAt) || ((o.toList == oTrue) || (o.toList == oFalse))))
/-- How many parts an Op has. -/
def manyO (o : ByteArray) : Option Nat :=
  if (o.toList == oNum) || ((o.toList == oName) || ((o.toList == oTrue) || (o.toList == oFalse))) then some 0
  else if (o.toList == oAt) || ((o.toList == oNeg) || (o.toList == oNot)) then some 1
  else if ofTwoO o then some 2 else none
def headOk (o : ByteArray) (n : Int) (len : Nat) : Bool := (manyO o == some len) && !((o.toList == oNum) && decide (n < 0))
mutual
def wholeE : Ex → Bool
  | .mk o _ n l _ => headOk o n l.length && wholeL l
def wholeL : List Ex → Bool
  | [] => true
  | e :: r => wholeE e && wholeL r
end
theorem wholeE_X (x : Ex) : wholeE x = (headOk x.op x.n x.l.length && wholeL x.l) := by cases x; rfl
theorem wholeL_at {l : List Ex} {i : Nat} {x : Ex} (h : wholeL l = true) (hx : l[i]? = some x) : wholeE x = true := by
  induction l generalizing i with
  | nil => simp at hx
  | cons y l ih =>
    simp only [wholeL, Bool.and_eq_true] at h
    cases i with
    | zero => simp at hx; subst hx; exact h.1
    | succ i => exact ih h.2 (by simpa using hx)
theorem wholeL_take {l : List Ex} {k : Nat} {x : Ex} (h : l[k]? = some x) : wholeL (l.take (k + 1)) = (wholeL (l.take k) && wholeE x) := by
  rw [take_one h]
  generalize l.take k = r
  induction r with
  | nil => simp [wholeL]
  | cons y r ih => simp only [List.cons_append, wholeL, ih, Bool.and_assoc]
/-- The seven kinds of Ops that there are. -/
theorem head_cases {o : ByteArray} {n : Int} {len : Nat} (h : headOk o n len = true) :
    (((o.toList == oNum) = true ∧ len = 0 ∧ 0 ≤ n) ∨ ((o.toList == oName) = true ∧ len = 0) ∨ ((o.toList == oTrue) = true ∧ len = 0) ∨ ((o.toList == oFalse) = true ∧ len = 0)) ∨
    ((o.toList == oAt) = true ∧ len = 1) ∨ ((o.toList == oNeg) = true ∧ len = 1) ∨ ((o.toList == oNot) = true ∧ len = 1) ∨ (ofTwoO o = true ∧ len = 2) := by
  unfold headOk manyO at h
  simp only [Bool.and_eq_true, beq_iff_eq, Bool.not_eq_true', Bool.and_eq_false_iff] at h
  obtain ⟨h1, h2⟩ := h
  split at h1
  · rename_i c
    injection h1 with h1
    simp only [Bool.or_eq_true] at c
    rcases c with c | c | c | c
    · exact .inl (.inl ⟨c, h1.symm, by
        rcases h2 with h2 | h2
        · rw [c] at h2; cases h2
        · exact Int.not_lt.1 (of_decide_eq_false h2)⟩)
    · exact .inl (.inr (.inl ⟨c, h1.symm⟩))
    · exact .inl (.inr (.inr (.inl ⟨c, h1.symm⟩)))
    · exact .inl (.inr (.inr (.inr ⟨c, h1.symm⟩)))
  · split at h1
    · rename_i c
      injection h1 with h1
      simp only [Bool.or_eq_true] at c
      rcases c with c | c | c
      · exact .inr (.inl ⟨c, h1.symm⟩)
      · exact .inr (.inr (.inl ⟨c, h1.symm⟩))
      · exact .inr (.inr (.inr (.inl ⟨c, h1.symm⟩)))
    · split at h1
      · rename_i c
        injection h1 with h1
        exact .inr (.inr (.inr (.inr ⟨c, h1.symm⟩)))
      · cases h1
theorem lit_of {o : ByteArray} {l : Bs} (h : (o.toList == l) = true) : o = ⟨l.toArray⟩ := by
  have e : o.toList = l := eq_of_beq h
  rw [ByteArray.toList_eq] at e
  exact WideShapes.bytes_inj (by simpa using e)
theorem twos_ok : ∀ l ∈ twos, opensO ⟨l.toArray⟩ = !simpleO ⟨l.toArray⟩ := by decide +kernel
theorem simple_opens {o : ByteArray} {n : Int} {len : Nat} (h : headOk o n len = true) : opensO o = !simpleO o := by
  rcases head_cases h with (⟨c, -⟩ | ⟨c, -⟩ | ⟨c, -⟩ | ⟨c, -⟩) | ⟨c, -⟩ | ⟨c, -⟩ | ⟨c, -⟩ | ⟨c, -⟩
  · rw [lit_of c]; kernel_rfl
  · rw [lit_of c]; kernel_rfl
  · rw [lit_of c]; kernel_rfl
  · rw [lit_of c]; kernel_rfl
  · rw [lit_of c]; kernel_rfl
  · rw [lit_of c]; kernel_rfl
  · rw [lit_of c]; kernel_rfl
  · have c' := c
    unfold ofTwoO at c'
    have hm : o.toList ∈ twos := List.contains_iff_mem.1 c'
    have q : o = ⟨(o.toList).toArray⟩ := lit_of (beq_self_eq_true _)
    have z := twos_ok o.toList hm
    rw [← q] at z
    exact z
end Go.Proofs.YteaongdlbleehaaGreatDoor

/- The tree layer: the document's Text. -/
namespace Go.Proofs.YteaongdlbleehaaGreatDoor
open Go.RowKit
section
set_option maxHeartbeats 3200000 in
set_option maxRecDepth 100000 in
theorem rsimple_any (op nm : ByteArray) (k a : Int) (A : Option Addr) (n c : Nat) (w : World) : Calls Tryz.prog 113 #[exV op nm k (.slice A n c) a] w fun e w' => e = .returned (.bool (simpleO op)) ∧ Below w.heap.size w w' := by
  have HX : Hid (simpleO op = ((op.toList == [110, 117, 109]) || ((op.toList == [110, 97, 109, 101]) || ((op.toList == [97, 116]) || ((op.toList == [116, 114, 117, 101]) || (op.toList == [102, 97, 108, 115, 101])))))) := Lib.hid rfl
  have HB : Hid (Below w.heap.size w (w.alloc (.cells #[.string op, .string nm, .int .i64 k, .slice A n c, .int .i64 a] 118))) := Lib.hid ((Below.refl _ _).alloc (Nat.le_refl _) _)
  rw [HX.out]
  clear HX
  cases h0 : (op.toList == [110, 117, 109])
  · cases h1 : (op.toList == [110, 97, 109, 101])
    · cases h2 : (op.toList == [97, 116])
      · cases h3 : (op.toList == [116, 114, 117, 101])
        · cases h4 : (op.toList == [102, 97, 108, 115, 101])
          · go_enter Tryz.func113, Tryz.ntmps113
            go_wp2
            go_ret
            exact ⟨rfl, HB.out⟩
          · go_enter Tryz.func113, Tryz.ntmps113
            go_wp2
            go_ret
            exact ⟨rfl, HB.out⟩
        · go_enter Tryz.func113, Tryz.ntmps113
          go_wp2
          go_ret
          exact ⟨rfl, HB.out⟩
      · go_enter Tryz.func113, Tryz.ntmps113
        go_wp2
        go_ret
        exact ⟨rfl, HB.out⟩
    · go_enter Tryz.func113, Tryz.ntmps113
      go_wp2
      go_ret
      exact ⟨rfl, HB.out⟩
  · go_enter Tryz.func113, Tryz.ntmps113
    go_wp2
    go_ret
    exact ⟨rfl, HB.out⟩
/-- The document's Text, so deep; and closed. -/
def RText (n : Nat) : Prop := ∀ (P : Nat → Prop) (l : List Ex) (v : Value) (op nm : ByteArray) (k a : Int) (w : World), ExR P n w l v → (∀ b, P b → b < w.heap.size) → In64 k → headOk op k l.length = true → wholeL l = true → (form Lib.itoa op nm k (tL l)).length ≤ 140737488355328 →
  Calls Tryz.prog 56 #[exV op nm k v a] w fun e w' => e = .returned (.string ⟨(form Lib.itoa op nm k (tL l)).toArray⟩) ∧ Below w.heap.size w w'
def RClos (n : Nat) : Prop := ∀ (P : Nat → Prop) (l : List Ex) (v : Value) (op nm : ByteArray) (k a : Int) (w : World), ExR P n w l v → (∀ b, P b → b < w.heap.size) → In64 k → headOk op k l.length = true → wholeL l = true → (clo (form Lib.itoa op nm k (tL l), opensO op)).length ≤ 140737488355328 →
  Calls Tryz.prog 92 #[exV op nm k v a] w fun e w' => e = .returned (.string ⟨(clo (form Lib.itoa op nm k (tL l), opensO op)).toArray⟩) ∧ Below w.heap.size w w'
theorem ret_str {a b : ByteArray} (h : a.data.toList = b.data.toList) : Ending.returned (.string a) = .returned (.string b) := by rw [WideShapes.bytes_inj h]
set_option maxHeartbeats 3200000 in
set_option maxRecDepth 100000 in
theorem clos_step {n : Nat} (ih : RText n) : RClos n := by
  intro P l v op nm k a w h hP hk hh hw hlen
  obtain ⟨A, c, rfl, -, -⟩ := h.slice
  obtain ⟨W0, hW0⟩ : ∃ W0, W0 = w.alloc (.cells #[.string op, .string nm, .int .i64 k, .slice A l.length c, .int .i64 a] 118) := ⟨_, rfl⟩
  have HB0 : Hid (Below w.heap.size w W0) := Lib.hid (by rw [hW0]; exact (Below.refl _ _).alloc (Nat.le_refl _) _)
  have HK : Hid (Blk W0 w.heap.size 118 #[.string op, .string nm, .int .i64 k, .slice A l.length c, .int .i64 a]) := Lib.hid (by rw [hW0]; exact Blk.new w _ _)
  have HW0 := Lib.hid hW0
  have HS := Lib.hid (rsimple_any op nm k a A l.length c W0)
  have ho := simple_opens hh
  generalize hF : form Lib.itoa op nm k (tL l) = F at hlen
  have hlF : F.length ≤ 140737488355328 := by
    unfold clo at hlen
    split at hlen
    · simp only [List.length_append, List.length_cons, List.length_nil] at hlen; omega
    · exact hlen
  have HT : Hid (∀ w1, Below W0.heap.size W0 w1 → Calls Tryz.prog 56 #[exV op nm k (.slice A l.length c) a] w1 fun e w' => e = .returned (.string ⟨F.toArray⟩) ∧ Below w1.heap.size w1 w') := Lib.hid fun w1 hb => by
    have q := thru HB0.out hb
    have r := ih P l _ op nm k a w1 (h.below q hP) (lo_up hP q.size) hk hh hw (by rw [hF]; exact hlF)
    rw [hF] at r
    exact r
  have HC : Hid (∀ w1, Below W0.heap.size W0 w1 → w1.cell? ⟨w.heap.size, 0, none⟩ = some (.string op) ∧ w1.cell? ⟨w.heap.size, 1, none⟩ = some (.string nm) ∧ w1.cell? ⟨w.heap.size, 2, none⟩ = some (.int .i64 k) ∧ w1.cell? ⟨w.heap.size, 3, none⟩ = some (.slice A l.length c) ∧ w1.cell? ⟨w.heap.size, 4, none⟩ = some (.int .i64 a)) := Lib.hid fun w1 hb => ⟨(HK.out.below hb HK.out.lt).cell 0, (HK.out.below hb HK.out.lt).cell 1, (HK.out.below hb HK.out.lt).cell 2, (HK.out.below hb HK.out.lt).cell 3, (HK.out.below hb HK.out.lt).cell 4⟩
  obtain ⟨x0, x1, x2, x3, x4⟩ := HC.out _ (Below.refl _ _)
  obtain ⟨q, hq⟩ : ∃ q, q = simpleO op := ⟨_, rfl⟩
  rw [← hq] at HS ho
  rw [ho]
  obtain ⟨FB, hFB⟩ : ∃ FB : ByteArray, FB = ⟨F.toArray⟩ := ⟨_, rfl⟩
  have hsz : FB.size ≤ 140737488355328 := by rw [hFB]; show F.toArray.size ≤ _; rw [List.size_toArray]; exact hlF
  rw [← hFB] at HT
  have HFB := Lib.hid hFB
  clear h hP hk hh hw hlen hW0 ho hq hFB hF hlF
  cases q
  · go_enter Tryz.func92, Tryz.ntmps92
    go_upto_region 1 with fail
    rw [← HW0.out]
    go_wp2_with (first
      | (go_at_call 113; have HX := HS.out; (with_reducible refine HX.mono ?_); clear HX; rintro e w1 ⟨rfl, hb⟩; have B1 := Lib.hid hb; obtain ⟨y0, y1, y2, y3, y4⟩ := HC.out _ hb; clear hb x0 x1 x2 x3 x4)
      | (go_at_call 56; have HX := HT.out _ B1.out; (with_reducible refine HX.mono ?_); clear HX; rintro e w2 ⟨rfl, hb⟩; have B2 := Lib.hid (thru HB0.out (thru B1.out hb)); clear hb))
    go_ret
    exact ⟨ret_str (by rw [HFB.out]; simp [clo]), B2.out⟩
  · go_enter Tryz.func92, Tryz.ntmps92
    go_upto_region 1 with fail
    rw [← HW0.out]
    go_wp2_with (first
      | (go_at_call 113; have HX := HS.out; (with_reducible refine HX.mono ?_); clear HX; rintro e w1 ⟨rfl, hb⟩; have B1 := Lib.hid hb; obtain ⟨y0, y1, y2, y3, y4⟩ := HC.out _ hb; clear hb x0 x1 x2 x3 x4)
      | (go_at_call 56; have HX := HT.out _ B1.out; (with_reducible refine HX.mono ?_); clear HX; rintro e w2 ⟨rfl, hb⟩; have B2 := Lib.hid (thru HB0.out (thru B1.out hb)); clear hb))
    go_ret
    exact ⟨ret_str (by rw [HFB.out]; simp [clo]), B2.out⟩
theorem twos_not : ∀ l ∈ twos, ((l == [110, 117, 109]) = false) ∧ ((l == [110, 97, 109, 101]) = false) ∧ ((l == [116, 114, 117, 101]) = false) ∧ ((l == [102, 97, 108, 115, 101]) = false) ∧ ((l == [97, 116]) = false) ∧ ((l == [110, 101, 103]) = false) ∧ ((l == [110, 111, 116]) = false) := by decide +kernel
set_option maxHeartbeats 12800000 in
set_option maxRecDepth 100000 in
theorem text_step {n : Nat} (iht : RText n) (ihc : RClos n) : RText (n + 1) := by
  intro P l v op nm k a w h hP hk hh hw hlen
  have h' := h
  obtain ⟨A, c, rfl, hc, hl, hat⟩ := h'
  rcases head_cases hh with (⟨cop, hlen0, hpos⟩ | ⟨cop, hlen0⟩ | ⟨cop, hlen0⟩ | ⟨cop, hlen0⟩) | ⟨cop, hlen0⟩ | ⟨cop, hlen0⟩ | ⟨cop, hlen0⟩ | ⟨cop, hlen0⟩
  · have hop : op = ⟨#[110, 117, 109]⟩ := lit_of cop
    subst hop
    obtain ⟨W0, hW0⟩ : ∃ W0, W0 = w.alloc (.cells #[.string ⟨#[110, 117, 109]⟩, .string nm, .int .i64 k, .slice A l.length c, .int .i64 a] 118) := ⟨_, rfl⟩
    have HB0 : Hid (Below w.heap.size w W0) := Lib.hid (by rw [hW0]; exact (Below.refl _ _).alloc (Nat.le_refl _) _)
    have HK : Hid (Blk W0 w.heap.size 118 #[.string ⟨#[110, 117, 109]⟩, .string nm, .int .i64 k, .slice A l.length c, .int .i64 a]) := Lib.hid (by rw [hW0]; exact Blk.new w _ _)
    have HW0 := Lib.hid hW0
    have x0 := HK.out.cell 0
    have x1 := HK.out.cell 1
    have x2 := HK.out.cell 2
    have x3 := HK.out.cell 3
    simp at x0 x1 x2 x3
    have HF : Hid (form Lib.itoa ⟨#[110, 117, 109]⟩ nm k (tL l) = Lib.itoa k) := Lib.hid (by unfold form; rw [show ((⟨#[110, 117, 109]⟩ : ByteArray).toList == oNum) = true from cop]; rfl)
    have HD := Lib.hid (rdigits_any k W0 (by have := hk.1; omega) hk.2)
    rw [HF.out]
    clear h hP hk hh hw hlen hW0 cop hlen0 hpos
    go_enter Tryz.func56, Tryz.ntmps56
    go_upto_region 1 with fail
    rw [← HW0.out]
    go_wp2_with (go_at_call 24; have HX := HD.out; (with_reducible refine HX.mono ?_); clear HX; rintro e w1 ⟨rfl, rfl⟩)
    go_ret
    exact ⟨rfl, HB0.out⟩
  · have hop : op = ⟨#[110, 97, 109, 101]⟩ := lit_of cop
    subst hop
    obtain ⟨W0, hW0⟩ : ∃ W0, W0 = w.alloc (.cells #[.string ⟨#[110, 97, 109, 101]⟩, .string nm, .int .i64 k, .slice A l.length c, .int .i64 a] 118) := ⟨_, rfl⟩
    have HB0 : Hid (Below w.heap.size w W0) := Lib.hid (by rw [hW0]; exact (Below.refl _ _).alloc (Nat.le_refl _) _)
    have HK : Hid (Blk W0 w.heap.size 118 #[.string ⟨#[110, 97, 109, 101]⟩, .string nm, .int .i64 k, .slice A l.length c, .int .i64 a]) := Lib.hid (by rw [hW0]; exact Blk.new w _ _)
    have HW0 := Lib.hid hW0
    have x0 := HK.out.cell 0
    have x1 := HK.out.cell 1
    have x2 := HK.out.cell 2
    have x3 := HK.out.cell 3
    simp at x0 x1 x2 x3
    have HF : Hid (form Lib.itoa ⟨#[110, 97, 109, 101]⟩ nm k (tL l) = nm.data.toList) := Lib.hid (by unfold form; rw [show ((⟨#[110, 97, 109, 101]⟩ : ByteArray).toList == oNum) = false from by kernel_rfl, show ((⟨#[110, 97, 109, 101]⟩ : ByteArray).toList == oName) = true from cop]; rfl)
    rw [HF.out]
    clear h hP hk hh hw hlen hW0 cop hlen0
    go_enter Tryz.func56, Tryz.ntmps56
    go_upto_region 1 with fail
    rw [← HW0.out]
    go_wp2
    go_ret
    exact ⟨ret_str rfl, HB0.out⟩
  · have hop : op = ⟨#[116, 114, 117, 101]⟩ := lit_of cop
    subst hop
    obtain ⟨W0, hW0⟩ : ∃ W0, W0 = w.alloc (.cells #[.string ⟨#[116, 114, 117, 101]⟩, .string nm, .int .i64 k, .slice A l.length c, .int .i64 a] 118) := ⟨_, rfl⟩
    have HB0 : Hid (Below w.heap.size w W0) := Lib.hid (by rw [hW0]; exact (Below.refl _ _).alloc (Nat.le_refl _) _)
    have HK : Hid (Blk W0 w.heap.size 118 #[.string ⟨#[116, 114, 117, 101]⟩, .string nm, .int .i64 k, .slice A l.length c, .int .i64 a]) := Lib.hid (by rw [hW0]; exact Blk.new w _ _)
    have HW0 := Lib.hid hW0
    have x0 := HK.out.cell 0
    have x1 := HK.out.cell 1
    have x2 := HK.out.cell 2
    have x3 := HK.out.cell 3
    simp at x0 x1 x2 x3
    have HF : Hid (form Lib.itoa ⟨#[116, 114, 117, 101]⟩ nm k (tL l) = (⟨#[116, 114, 117, 101]⟩ : ByteArray).data.toList) := Lib.hid (by unfold form; rw [show ((⟨#[116, 114, 117, 101]⟩ : ByteArray).toList == oNum) = false from by kernel_rfl, show ((⟨#[116, 114, 117, 101]⟩ : ByteArray).toList == oName) = false from by kernel_rfl, show ((⟨#[116, 114, 117, 101]⟩ : ByteArray).toList == oAt) = false from by kernel_rfl, show ((⟨#[116, 114, 117, 101]⟩ : ByteArray).toList == oNeg) = false from by kernel_rfl, show ((⟨#[116, 114, 117, 101]⟩ : ByteArray).toList == oNot) = false from by kernel_rfl, show ofTwoO ⟨#[116, 114, 117, 101]⟩ = false from by kernel_rfl]; rfl)
    rw [HF.out]
    clear h hP hk hh hw hlen hW0 cop hlen0
    go_enter Tryz.func56, Tryz.ntmps56
    go_upto_region 1 with fail
    rw [← HW0.out]
    go_wp2
    go_ret
    exact ⟨ret_str rfl, HB0.out⟩
  · have hop : op = ⟨#[102, 97, 108, 115, 101]⟩ := lit_of cop
    subst hop
    obtain ⟨W0, hW0⟩ : ∃ W0, W0 = w.alloc (.cells #[.string ⟨#[102, 97, 108, 115, 101]⟩, .string nm, .int .i64 k, .slice A l.length c, .int .i64 a] 118) := ⟨_, rfl⟩
    have HB0 : Hid (Below w.heap.size w W0) := Lib.hid (by rw [hW0]; exact (Below.refl _ _).alloc (Nat.le_refl _) _)
    have HK : Hid (Blk W0 w.heap.size 118 #[.string ⟨#[102, 97, 108, 115, 101]⟩, .string nm, .int .i64 k, .slice A l.length c, .int .i64 a]) := Lib.hid (by rw [hW0]; exact Blk.new w _ _)
    have HW0 := Lib.hid hW0
    have x0 := HK.out.cell 0
    have x1 := HK.out.cell 1
    have x2 := HK.out.cell 2
    have x3 := HK.out.cell 3
    simp at x0 x1 x2 x3
    have HF : Hid (form Lib.itoa ⟨#[102, 97, 108, 115, 101]⟩ nm k (tL l) = (⟨#[102, 97, 108, 115, 101]⟩ : ByteArray).data.toList) := Lib.hid (by unfold form; rw [show ((⟨#[102, 97, 108, 115, 101]⟩ : ByteArray).toList == oNum) = false from by kernel_rfl, show ((⟨#[102, 97, 108, 115, 101]⟩ : ByteArray).toList == oName) = false from by kernel_rfl, show ((⟨#[102, 97, 108, 115, 101]⟩ : ByteArray).toList == oAt) = false from by kernel_rfl, show ((⟨#[102, 97, 108, 115, 101]⟩ : ByteArray).toList == oNeg) = false from by kernel_rfl, show ((⟨#[102, 97, 108, 115, 101]⟩ : ByteArray).toList == oNot) = false from by kernel_rfl, show ofTwoO ⟨#[102, 97, 108, 115, 101]⟩ = false from by kernel_rfl]; rfl)
    rw [HF.out]
    clear h hP hk hh hw hlen hW0 cop hlen0
    go_enter Tryz.func56, Tryz.ntmps56
    go_upto_region 1 with fail
    rw [← HW0.out]
    go_wp2
    go_ret
    exact ⟨ret_str rfl, HB0.out⟩
  · have hop : op = ⟨#[97, 116]⟩ := lit_of cop
    subst hop
    obtain ⟨x, rfl⟩ : ∃ x, l = [x] := List.length_eq_one_iff.1 hlen0
    obtain ⟨bb, off, Lx, hA, hbB, hax, hkx, -, hrx⟩ := hat 0 x rfl
    subst hA
    obtain ⟨Ax, cx, rfl, -, -⟩ := hrx.slice
    have hwx := wholeL_at hw (i := 0) rfl
    rw [wholeE_X, Bool.and_eq_true] at hwx
    obtain ⟨W0, hW0⟩ : ∃ W0, W0 = w.alloc (.cells #[.string ⟨#[97, 116]⟩, .string nm, .int .i64 k, .slice (some ⟨bb, off, none⟩) 1 c, .int .i64 a] 118) := ⟨_, rfl⟩
    have HB0 : Hid (Below w.heap.size w W0) := Lib.hid (by rw [hW0]; exact (Below.refl _ _).alloc (Nat.le_refl _) _)
    have HK : Hid (Blk W0 w.heap.size 118 #[.string ⟨#[97, 116]⟩, .string nm, .int .i64 k, .slice (some ⟨bb, off, none⟩) 1 c, .int .i64 a]) := Lib.hid (by rw [hW0]; exact Blk.new w _ _)
    have HW0 := Lib.hid hW0
    have x0 := HK.out.cell 0
    have x1 := HK.out.cell 1
    have x2 := HK.out.cell 2
    have x3 := HK.out.cell 3
    simp at x0 x1 x2 x3
    have hp0 : part0 (tL [x]) 0 = tE x := part0_some rfl
    have hF : form Lib.itoa ⟨#[97, 116]⟩ nm k (tL [x]) = nm.data.toList ++ [91] ++ tE x ++ [93] := by
      unfold form
      rw [show ((⟨#[97, 116]⟩ : ByteArray).toList == oNum) = false from by kernel_rfl, show ((⟨#[97, 116]⟩ : ByteArray).toList == oName) = false from by kernel_rfl, show ((⟨#[97, 116]⟩ : ByteArray).toList == oAt) = true from cop, hp0]
      rfl
    rw [hF] at hlen ⊢
    simp only [List.length_append, List.length_cons, List.length_nil, list_size_] at hlen
    obtain ⟨T, hT⟩ : ∃ T : ByteArray, T = ⟨(tE x).toArray⟩ := ⟨_, rfl⟩
    have hsz : T.size + nm.size ≤ 140737488355328 := by rw [hT]; show (tE x).toArray.size + nm.size ≤ _; rw [List.size_toArray]; omega
    have hsz1 : T.size ≤ 140737488355328 := by omega
    have hsz2 : nm.size ≤ 140737488355328 := by omega
    have HT : Hid (∀ w1, Below W0.heap.size W0 w1 → Calls Tryz.prog 56 #[exV x.op x.nm x.n (.slice Ax x.l.length cx) x.a] w1 fun e w' => e = .returned (.string T) ∧ Below w1.heap.size w1 w') := Lib.hid fun w1 hb => by
      have q := thru HB0.out hb
      have r := iht P x.l _ x.op x.nm x.n x.a w1 (hrx.below q hP) (lo_up hP q.size) hkx hwx.1 hwx.2 (by rw [← tE_form]; omega)
      rw [← tE_form, ← hT] at r
      exact r
    have HC : Hid (∀ w1, Below W0.heap.size W0 w1 → (w1.cell? ⟨w.heap.size, 1, none⟩ = some (.string nm) ∧ w1.cell? ⟨w.heap.size, 3, none⟩ = some (.slice (some ⟨bb, off, none⟩) 1 c)) ∧ w1.cell? ⟨bb, off, none⟩ = some (.string x.op) ∧ w1.cell? ⟨bb, off + 1, none⟩ = some (.string x.nm) ∧ w1.cell? ⟨bb, off + 2, none⟩ = some (.int .i64 x.n) ∧ w1.cell? ⟨bb, off + 3, none⟩ = some (.slice Ax x.l.length cx) ∧ w1.cell? ⟨bb, off + 4, none⟩ = some (.int .i64 x.a)) := Lib.hid fun w1 hb => ⟨⟨(HK.out.below hb HK.out.lt).cell 1, (HK.out.below hb HK.out.lt).cell 3⟩, hax.below (thru HB0.out hb) (hP bb hbB)⟩
    have BD : Hid (Below W0.heap.size W0 W0.drew) := Lib.hid (Below.refl _ _).drew
    have K0 := Lib.hid (HC.out _ BD.out)
    have HTe := Lib.hid hT
    clear hat h hP hk hh hw hlen hW0 cop hax hkx hrx hwx hp0 hF hT x0 x1 x2 x3 hlen0
    have x0 := HK.out.cell 0
    simp at x0
    have big0 : ¬ (9223372036854775807 < nm.size + 1) := by omega
    have big1 : ¬ (9223372036854775807 < nm.size + 1 + T.size) := by omega
    have big2 : ¬ (9223372036854775807 < nm.size + 1 + T.size + 1) := by omega
    have bigl0 : ¬ (9223372036854775807 ≤ nm.size) := by omega
    have bigl1 : ¬ (9223372036854775807 ≤ nm.size + 1 + T.size) := by omega
    go_enter Tryz.func56, Tryz.ntmps56
    go_upto_region 1 with fail
    rw [← HW0.out]
    go_wp2_with fail
    go_region_held3 (fun w1 => (w1.cell? ⟨w.heap.size, 1, none⟩ = some (.string nm) ∧ w1.cell? ⟨w.heap.size, 3, none⟩ = some (.slice (some ⟨bb, off, none⟩) 1 c)) ∧ w1.cell? ⟨bb, off, none⟩ = some (.string x.op) ∧ w1.cell? ⟨bb, off + 1, none⟩ = some (.string x.nm) ∧ w1.cell? ⟨bb, off + 2, none⟩ = some (.int .i64 x.n) ∧ w1.cell? ⟨bb, off + 3, none⟩ = some (.slice Ax x.l.length cx) ∧ w1.cell? ⟨bb, off + 4, none⟩ = some (.int .i64 x.a))
      (first | (with_reducible exact K0.out) | (with_reducible exact K1.out))
      (first
      | (go_at_call 56; have HX := HT.out _ BD.out; (with_reducible refine HX.mono ?_); clear HX; rintro e w1 ⟨rfl, hb⟩; have B1 := Lib.hid (thru BD.out hb); have K1 := Lib.hid (HC.out _ B1.out); clear hb))
    all_goals go_wp2_with fail
    all_goals go_ret
    all_goals exact ⟨ret_str (by rw [HTe.out]; simp), thru HB0.out B1.out⟩
  · have hop : op = ⟨#[110, 101, 103]⟩ := lit_of cop
    subst hop
    obtain ⟨x, rfl⟩ : ∃ x, l = [x] := List.length_eq_one_iff.1 hlen0
    obtain ⟨bb, off, Lx, hA, hbB, hax, hkx, -, hrx⟩ := hat 0 x rfl
    subst hA
    obtain ⟨Ax, cx, rfl, -, -⟩ := hrx.slice
    have hwx := wholeL_at hw (i := 0) rfl
    rw [wholeE_X, Bool.and_eq_true] at hwx
    obtain ⟨W0, hW0⟩ : ∃ W0, W0 = w.alloc (.cells #[.string ⟨#[110, 101, 103]⟩, .string nm, .int .i64 k, .slice (some ⟨bb, off, none⟩) 1 c, .int .i64 a] 118) := ⟨_, rfl⟩
    have HB0 : Hid (Below w.heap.size w W0) := Lib.hid (by rw [hW0]; exact (Below.refl _ _).alloc (Nat.le_refl _) _)
    have HK : Hid (Blk W0 w.heap.size 118 #[.string ⟨#[110, 101, 103]⟩, .string nm, .int .i64 k, .slice (some ⟨bb, off, none⟩) 1 c, .int .i64 a]) := Lib.hid (by rw [hW0]; exact Blk.new w _ _)
    have HW0 := Lib.hid hW0
    have x0 := HK.out.cell 0
    have x1 := HK.out.cell 1
    have x2 := HK.out.cell 2
    have x3 := HK.out.cell 3
    simp at x0 x1 x2 x3
    have hp0 : clos (tL [x]) 0 = clo (tE x, opensO x.op) := by rw [clos_some (l := [x]) (i := 0) rfl]; rfl
    have hF : form Lib.itoa ⟨#[110, 101, 103]⟩ nm k (tL [x]) = [45] ++ clo (tE x, opensO x.op) := by
      unfold form
      rw [show ((⟨#[110, 101, 103]⟩ : ByteArray).toList == oNum) = false from by kernel_rfl, show ((⟨#[110, 101, 103]⟩ : ByteArray).toList == oName) = false from by kernel_rfl, show ((⟨#[110, 101, 103]⟩ : ByteArray).toList == oAt) = false from by kernel_rfl, show ((⟨#[110, 101, 103]⟩ : ByteArray).toList == oNeg) = true from cop, hp0]
      rfl
    rw [hF] at hlen ⊢
    simp only [List.length_append, List.length_cons, List.length_nil] at hlen
    generalize hcl : clo (tE x, opensO x.op) = cl at hlen
    obtain ⟨T, hT⟩ : ∃ T : ByteArray, T = ⟨cl.toArray⟩ := ⟨_, rfl⟩
    have hsz1 : T.size ≤ 140737488355328 := by rw [hT]; show cl.toArray.size ≤ _; rw [List.size_toArray]; omega
    have HT : Hid (∀ w1, Below W0.heap.size W0 w1 → Calls Tryz.prog 92 #[exV x.op x.nm x.n (.slice Ax x.l.length cx) x.a] w1 fun e w' => e = .returned (.string T) ∧ Below w1.heap.size w1 w') := Lib.hid fun w1 hb => by
      have q := thru HB0.out hb
      have r := ihc P x.l _ x.op x.nm x.n x.a w1 (hrx.below q hP) (lo_up hP q.size) hkx hwx.1 hwx.2 (by rw [← tE_form, hcl]; omega)
      rw [← tE_form, hcl, ← hT] at r
      exact r
    obtain ⟨y0, y1, y2, y3, y4⟩ : W0.cell? ⟨bb, off, none⟩ = some (.string x.op) ∧ W0.cell? ⟨bb, off + 1, none⟩ = some (.string x.nm) ∧ W0.cell? ⟨bb, off + 2, none⟩ = some (.int .i64 x.n) ∧ W0.cell? ⟨bb, off + 3, none⟩ = some (.slice Ax x.l.length cx) ∧ W0.cell? ⟨bb, off + 4, none⟩ = some (.int .i64 x.a) := hax.below HB0.out (hP bb hbB)
    have B0 : Hid (Below W0.heap.size W0 W0) := Lib.hid (Below.refl _ _)
    have HTe := Lib.hid hT
    clear hat h hP hk hh hw hlen hW0 cop hax hkx hrx hwx hp0 hF hT hcl hlen0
    go_enter Tryz.func56, Tryz.ntmps56
    go_upto_region 1 with fail
    rw [← HW0.out]
    go_wp2_with (go_at_call 92; have HX := HT.out _ B0.out; (with_reducible refine HX.mono ?_); clear HX; rintro e w1 ⟨rfl, hb⟩; have B1 := Lib.hid hb; clear hb)
    go_ret
    exact ⟨ret_str (by rw [HTe.out]; simp), thru HB0.out B1.out⟩
  · have hop : op = ⟨#[110, 111, 116]⟩ := lit_of cop
    subst hop
    obtain ⟨x, rfl⟩ : ∃ x, l = [x] := List.length_eq_one_iff.1 hlen0
    obtain ⟨bb, off, Lx, hA, hbB, hax, hkx, -, hrx⟩ := hat 0 x rfl
    subst hA
    obtain ⟨Ax, cx, rfl, -, -⟩ := hrx.slice
    have hwx := wholeL_at hw (i := 0) rfl
    rw [wholeE_X, Bool.and_eq_true] at hwx
    obtain ⟨W0, hW0⟩ : ∃ W0, W0 = w.alloc (.cells #[.string ⟨#[110, 111, 116]⟩, .string nm, .int .i64 k, .slice (some ⟨bb, off, none⟩) 1 c, .int .i64 a] 118) := ⟨_, rfl⟩
    have HB0 : Hid (Below w.heap.size w W0) := Lib.hid (by rw [hW0]; exact (Below.refl _ _).alloc (Nat.le_refl _) _)
    have HK : Hid (Blk W0 w.heap.size 118 #[.string ⟨#[110, 111, 116]⟩, .string nm, .int .i64 k, .slice (some ⟨bb, off, none⟩) 1 c, .int .i64 a]) := Lib.hid (by rw [hW0]; exact Blk.new w _ _)
    have HW0 := Lib.hid hW0
    have x0 := HK.out.cell 0
    have x1 := HK.out.cell 1
    have x2 := HK.out.cell 2
    have x3 := HK.out.cell 3
    simp at x0 x1 x2 x3
    have hp0 : clos (tL [x]) 0 = clo (tE x, opensO x.op) := by rw [clos_some (l := [x]) (i := 0) rfl]; rfl
    have hF : form Lib.itoa ⟨#[110, 111, 116]⟩ nm k (tL [x]) = [33] ++ clo (tE x, opensO x.op) := by
      unfold form
      rw [show ((⟨#[110, 111, 116]⟩ : ByteArray).toList == oNum) = false from by kernel_rfl, show ((⟨#[110, 111, 116]⟩ : ByteArray).toList == oName) = false from by kernel_rfl, show ((⟨#[110, 111, 116]⟩ : ByteArray).toList == oAt) = false from by kernel_rfl, show ((⟨#[110, 111, 116]⟩ : ByteArray).toList == oNeg) = false from by kernel_rfl, show ((⟨#[110, 111, 116]⟩ : ByteArray).toList == oNot) = true from cop, hp0]
      rfl
    rw [hF] at hlen ⊢
    simp only [List.length_append, List.length_cons, List.length_nil] at hlen
    generalize hcl : clo (tE x, opensO x.op) = cl at hlen
    obtain ⟨T, hT⟩ : ∃ T : ByteArray, T = ⟨cl.toArray⟩ := ⟨_, rfl⟩
    have hsz1 : T.size ≤ 140737488355328 := by rw [hT]; show cl.toArray.size ≤ _; rw [List.size_toArray]; omega
    have HT : Hid (∀ w1, Below W0.heap.size W0 w1 → Calls Tryz.prog 92 #[exV x.op x.nm x.n (.slice Ax x.l.length cx) x.a] w1 fun e w' => e = .returned (.string T) ∧ Below w1.heap.size w1 w') := Lib.hid fun w1 hb => by
      have q := thru HB0.out hb
      have r := ihc P x.l _ x.op x.nm x.n x.a w1 (hrx.below q hP) (lo_up hP q.size) hkx hwx.1 hwx.2 (by rw [← tE_form, hcl]; omega)
      rw [← tE_form, hcl, ← hT] at r
      exact r
    obtain ⟨y0, y1, y2, y3, y4⟩ : W0.cell? ⟨bb, off, none⟩ = some (.string x.op) ∧ W0.cell? ⟨bb, off + 1, none⟩ = some (.string x.nm) ∧ W0.cell? ⟨bb, off + 2, none⟩ = some (.int .i64 x.n) ∧ W0.cell? ⟨bb, off + 3, none⟩ = some (.slice Ax x.l.length cx) ∧ W0.cell? ⟨bb, off + 4, none⟩ = some (.int .i64 x.a) := hax.below HB0.out (hP bb hbB)
    have B0 : Hid (Below W0.heap.size W0 W0) := Lib.hid (Below.refl _ _)
    have HTe := Lib.hid hT
    clear hat h hP hk hh hw hlen hW0 cop hax hkx hrx hwx hp0 hF hT hcl hlen0
    go_enter Tryz.func56, Tryz.ntmps56
    go_upto_region 1 with fail
    rw [← HW0.out]
    go_wp2_with (go_at_call 92; have HX := HT.out _ B0.out; (with_reducible refine HX.mono ?_); clear HX; rintro e w1 ⟨rfl, hb⟩; have B1 := Lib.hid hb; clear hb)
    go_ret
    exact ⟨ret_str (by rw [HTe.out]; simp), thru HB0.out B1.out⟩
  · obtain ⟨x, y, rfl⟩ : ∃ x y, l = [x, y] := by
      match l, hlen0 with
      | [x, y], _ => exact ⟨x, y, rfl⟩
    obtain ⟨bb, off, Lx, hA, hbB, hax, hkx, -, hrx⟩ := hat 0 x rfl
    subst hA
    obtain ⟨bb', off', Ly, hA, -, hay, hky, -, hry⟩ := hat 1 y rfl
    injection hA with hA
    injection hA with e1 e2
    subst e1 e2
    obtain ⟨Ax, cx, rfl, -, -⟩ := hrx.slice
    obtain ⟨Ay, cy, rfl, -, -⟩ := hry.slice
    have hwx := wholeL_at hw (i := 0) rfl
    rw [wholeE_X, Bool.and_eq_true] at hwx
    have hwy := wholeL_at hw (i := 1) rfl
    rw [wholeE_X, Bool.and_eq_true] at hwy
    obtain ⟨n0, n1, n2, n3, n4, n5, n6⟩ := twos_not op.toList (List.contains_iff_mem.1 cop)
    obtain ⟨W0, hW0⟩ : ∃ W0, W0 = w.alloc (.cells #[.string op, .string nm, .int .i64 k, .slice (some ⟨bb, off, none⟩) 2 c, .int .i64 a] 118) := ⟨_, rfl⟩
    have HB0 : Hid (Below w.heap.size w W0) := Lib.hid (by rw [hW0]; exact (Below.refl _ _).alloc (Nat.le_refl _) _)
    have HK : Hid (Blk W0 w.heap.size 118 #[.string op, .string nm, .int .i64 k, .slice (some ⟨bb, off, none⟩) 2 c, .int .i64 a]) := Lib.hid (by rw [hW0]; exact Blk.new w _ _)
    have HW0 := Lib.hid hW0
    have x0 := HK.out.cell 0
    have x1 := HK.out.cell 1
    have x2 := HK.out.cell 2
    have x3 := HK.out.cell 3
    simp at x0 x1 x2 x3
    have hp0 : clos (tL [x, y]) 0 = clo (tE x, opensO x.op) := by rw [clos_some (l := [x, y]) (i := 0) rfl]; rfl
    have hp1 : clos (tL [x, y]) 1 = clo (tE y, opensO y.op) := by rw [clos_some (l := [x, y]) (i := 1) rfl]; rfl
    have hF : form Lib.itoa op nm k (tL [x, y]) = clo (tE x, opensO x.op) ++ [32] ++ op.data.toList ++ [32] ++ clo (tE y, opensO y.op) := by
      unfold form
      rw [show (op.toList == oNum) = false from n0, show (op.toList == oName) = false from n1, show (op.toList == oAt) = false from n4, show (op.toList == oNeg) = false from n5, show (op.toList == oNot) = false from n6, cop, hp0, hp1]
      rfl
    rw [hF] at hlen ⊢
    simp only [List.length_append, List.length_cons, List.length_nil, list_size_] at hlen
    generalize hcl : clo (tE x, opensO x.op) = cl at hlen
    generalize hcm : clo (tE y, opensO y.op) = cm at hlen
    obtain ⟨T, hT⟩ : ∃ T : ByteArray, T = ⟨cl.toArray⟩ := ⟨_, rfl⟩
    obtain ⟨U, hU⟩ : ∃ U : ByteArray, U = ⟨cm.toArray⟩ := ⟨_, rfl⟩
    have hsz : T.size + op.size + U.size ≤ 140737488355328 := by rw [hT, hU]; show cl.toArray.size + op.size + cm.toArray.size ≤ _; rw [List.size_toArray, List.size_toArray]; omega
    have hsz1 : T.size ≤ 140737488355328 := by omega
    have hsz2 : op.size ≤ 140737488355328 := by omega
    have hsz3 : U.size ≤ 140737488355328 := by omega
    have HT : Hid (∀ w1, Below W0.heap.size W0 w1 → Calls Tryz.prog 92 #[exV x.op x.nm x.n (.slice Ax x.l.length cx) x.a] w1 fun e w' => e = .returned (.string T) ∧ Below w1.heap.size w1 w') := Lib.hid fun w1 hb => by
      have q := thru HB0.out hb
      have r := ihc P x.l _ x.op x.nm x.n x.a w1 (hrx.below q hP) (lo_up hP q.size) hkx hwx.1 hwx.2 (by rw [← tE_form, hcl]; omega)
      rw [← tE_form, hcl, ← hT] at r
      exact r
    have HU : Hid (∀ w1, Below W0.heap.size W0 w1 → Calls Tryz.prog 92 #[exV y.op y.nm y.n (.slice Ay y.l.length cy) y.a] w1 fun e w' => e = .returned (.string U) ∧ Below w1.heap.size w1 w') := Lib.hid fun w1 hb => by
      have q := thru HB0.out hb
      have r := ihc P y.l _ y.op y.nm y.n y.a w1 (hry.below q hP) (lo_up hP q.size) hky hwy.1 hwy.2 (by rw [← tE_form, hcm]; omega)
      rw [← tE_form, hcm, ← hU] at r
      exact r
    have HC : Hid (∀ w1, Below W0.heap.size W0 w1 → (w1.cell? ⟨w.heap.size, 0, none⟩ = some (.string op) ∧ w1.cell? ⟨w.heap.size, 3, none⟩ = some (.slice (some ⟨bb, off, none⟩) 2 c)) ∧ (w1.cell? ⟨bb, off, none⟩ = some (.string x.op) ∧ w1.cell? ⟨bb, off + 1, none⟩ = some (.string x.nm) ∧ w1.cell? ⟨bb, off + 2, none⟩ = some (.int .i64 x.n) ∧ w1.cell? ⟨bb, off + 3, none⟩ = some (.slice Ax x.l.length cx) ∧ w1.cell? ⟨bb, off + 4, none⟩ = some (.int .i64 x.a)) ∧ w1.cell? ⟨bb, off + 5, none⟩ = some (.string y.op) ∧ w1.cell? ⟨bb, off + 6, none⟩ = some (.string y.nm) ∧ w1.cell? ⟨bb, off + 7, none⟩ = some (.int .i64 y.n) ∧ w1.cell? ⟨bb, off + 8, none⟩ = some (.slice Ay y.l.length cy) ∧ w1.cell? ⟨bb, off + 9, none⟩ = some (.int .i64 y.a)) := Lib.hid fun w1 hb => ⟨⟨(HK.out.below hb HK.out.lt).cell 0, (HK.out.below hb HK.out.lt).cell 3⟩, hax.below (thru HB0.out hb) (hP bb hbB), hay.below (thru HB0.out hb) (hP bb hbB)⟩
    have BD : Hid (Below W0.heap.size W0 W0.drew) := Lib.hid (Below.refl _ _).drew
    have K0 := Lib.hid (HC.out _ BD.out)
    have HTe := Lib.hid hT
    have HUe := Lib.hid hU
    clear hat h hP hk hh hw hlen hW0 cop hax hkx hrx hwx hp0 hF hT hcl hay hky hry hwy hp1 hU hcm x1 x2 x3 hlen0
    have big0 : ¬ (9223372036854775807 < T.size + 1) := by omega
    have big1 : ¬ (9223372036854775807 < T.size + 1 + op.size) := by omega
    have big2 : ¬ (9223372036854775807 < T.size + 1 + op.size + 1) := by omega
    have big3 : ¬ (9223372036854775807 < T.size + 1 + op.size + 1 + U.size) := by omega
    have bigl0 : ¬ (9223372036854775807 ≤ T.size) := by omega
    have bigl1 : ¬ (9223372036854775807 ≤ T.size + 1 + op.size) := by omega
    go_enter Tryz.func56, Tryz.ntmps56
    go_upto_region 1 with fail
    rw [← HW0.out]
    go_wp2_with fail
    go_region_held3 (fun w1 => (w1.cell? ⟨w.heap.size, 0, none⟩ = some (.string op) ∧ w1.cell? ⟨w.heap.size, 3, none⟩ = some (.slice (some ⟨bb, off, none⟩) 2 c)) ∧ (w1.cell? ⟨bb, off, none⟩ = some (.string x.op) ∧ w1.cell? ⟨bb, off + 1, none⟩ = some (.string x.nm) ∧ w1.cell? ⟨bb, off + 2, none⟩ = some (.int .i64 x.n) ∧ w1.cell? ⟨bb, off + 3, none⟩ = some (.slice Ax x.l.length cx) ∧ w1.cell? ⟨bb, off + 4, none⟩ = some (.int .i64 x.a)) ∧ w1.cell? ⟨bb, off + 5, none⟩ = some (.string y.op) ∧ w1.cell? ⟨bb, off + 6, none⟩ = some (.string y.nm) ∧ w1.cell? ⟨bb, off + 7, none⟩ = some (.int .i64 y.n) ∧ w1.cell? ⟨bb, off + 8, none⟩ = some (.slice Ay y.l.length cy) ∧ w1.cell? ⟨bb, off + 9, none⟩ = some (.int .i64 y.a))
      (first | (with_reducible exact K0.out) | (with_reducible exact K1.out) | (with_reducible exact K2.out))
      (first
      | (go_at_call 92; have HX := HT.out _ BD.out; (with_reducible refine HX.mono ?_); clear HX; rintro e w1 ⟨rfl, hb⟩; have B1 := Lib.hid (thru BD.out hb); have K1 := Lib.hid (HC.out _ B1.out); clear hb)
      | (go_at_call 92; have HX := HU.out _ B1.out; (with_reducible refine HX.mono ?_); clear HX; rintro e w2 ⟨rfl, hb⟩; have B2 := Lib.hid (thru B1.out hb); have K2 := Lib.hid (HC.out _ B2.out); clear hb))
    all_goals go_wp2_with fail
    all_goals go_ret
    all_goals exact ⟨ret_str (by rw [HTe.out, HUe.out]; simp), thru HB0.out B2.out⟩
theorem rtext_any (n : Nat) : RText n ∧ RClos n := by
  induction n with
  | zero => exact ⟨fun P l v op nm k a w h => h.elim, fun P l v op nm k a w h => h.elim⟩
  | succ n ih => exact ⟨text_step ih.1 ih.2, clos_step (text_step ih.1 ih.2)⟩
end
end Go.Proofs.YteaongdlbleehaaGreatDoor

/- The tree layer: the document's Whole of an expression. -/
namespace Go.Proofs.YteaongdlbleehaaGreatDoor
open Go.RowKit
theorem many_cases {o : ByteArray} {mm : Nat} (h : manyO o = some mm) : (o = ⟨#[110, 117, 109]⟩ ∧ mm = 0) ∨ (o = ⟨#[110, 97, 109, 101]⟩ ∧ mm = 0) ∨ (o = ⟨#[116, 114, 117, 101]⟩ ∧ mm = 0) ∨ (o = ⟨#[102, 97, 108, 115, 101]⟩ ∧ mm = 0) ∨ (o = ⟨#[97, 116]⟩ ∧ mm = 1) ∨ (o = ⟨#[110, 101, 103]⟩ ∧ mm = 1) ∨ (o = ⟨#[110, 111, 116]⟩ ∧ mm = 1) ∨ (o = ⟨#[43]⟩ ∧ mm = 2) ∨ (o = ⟨#[45]⟩ ∧ mm = 2) ∨ (o = ⟨#[42]⟩ ∧ mm = 2) ∨ (o = ⟨#[47]⟩ ∧ mm = 2) ∨ (o = ⟨#[61, 61]⟩ ∧ mm = 2) ∨ (o = ⟨#[33, 61]⟩ ∧ mm = 2) ∨ (o = ⟨#[60]⟩ ∧ mm = 2) ∨ (o = ⟨#[60, 61]⟩ ∧ mm = 2) ∨ (o = ⟨#[62]⟩ ∧ mm = 2) ∨ (o = ⟨#[62, 61]⟩ ∧ mm = 2) ∨ (o = ⟨#[38, 38]⟩ ∧ mm = 2) ∨ (o = ⟨#[124, 124]⟩ ∧ mm = 2) := by
  unfold manyO at h
  split at h
  · rename_i c
    injection h with h
    subst h
    simp only [Bool.or_eq_true] at c
    rcases c with c | c | c | c
    · exact .inl ⟨lit_of c, rfl⟩
    · exact .inr (.inl ⟨lit_of c, rfl⟩)
    · exact .inr (.inr (.inl ⟨lit_of c, rfl⟩))
    · exact .inr (.inr (.inr (.inl ⟨lit_of c, rfl⟩)))
  · split at h
    · rename_i c
      injection h with h
      subst h
      simp only [Bool.or_eq_true] at c
      rcases c with c | c | c
      · exact .inr (.inr (.inr (.inr (.inl ⟨lit_of c, rfl⟩))))
      · exact .inr (.inr (.inr (.inr (.inr (.inl ⟨lit_of c, rfl⟩)))))
      · exact .inr (.inr (.inr (.inr (.inr (.inr (.inl ⟨lit_of c, rfl⟩))))))
    · split at h
      · rename_i c
        injection h with h
        subst h
        have hm : o.toList ∈ twos := List.contains_iff_mem.1 c
        have q : o = ⟨(o.toList).toArray⟩ := lit_of (beq_self_eq_true _)
        generalize o.toList = t at hm q
        subst q
        simp only [twos, List.mem_cons, List.not_mem_nil, or_false] at hm
        refine .inr (.inr (.inr (.inr (.inr (.inr (.inr ?_))))))
        rcases hm with rfl | rfl | rfl | rfl | rfl | rfl | rfl | rfl | rfl | rfl | rfl | rfl
        all_goals simp
      · cases h
theorem many_none {o : ByteArray} (h : manyO o = none) : (o.toList == [110, 117, 109]) = false ∧ (o.toList == [110, 97, 109, 101]) = false ∧ (o.toList == [116, 114, 117, 101]) = false ∧ (o.toList == [102, 97, 108, 115, 101]) = false ∧ (o.toList == [97, 116]) = false ∧ (o.toList == [110, 101, 103]) = false ∧ (o.toList == [110, 111, 116]) = false ∧ (o.toList == [43]) = false ∧ (o.toList == [45]) = false ∧ (o.toList == [42]) = false ∧ (o.toList == [47]) = false ∧ (o.toList == [61, 61]) = false ∧ (o.toList == [33, 61]) = false ∧ (o.toList == [60]) = false ∧ (o.toList == [60, 61]) = false ∧ (o.toList == [62]) = false ∧ (o.toList == [62, 61]) = false ∧ (o.toList == [38, 38]) = false ∧ (o.toList == [124, 124]) = false := by
  refine ⟨?_, ?_, ?_, ?_, ?_, ?_, ?_, ?_, ?_, ?_, ?_, ?_, ?_, ?_, ?_, ?_, ?_, ?_, ?_⟩
  all_goals
    apply Bool.eq_false_iff.2
    intro c
    have e := lit_of c
    subst e
    revert h
    decide +kernel
end Go.Proofs.YteaongdlbleehaaGreatDoor

/- The tree layer: the document's WholeStmts: have statements what they must? -/
namespace Go.Proofs.YteaongdlbleehaaGreatDoor
open Go.RowKit
/-- How many expressions a statement has, by its Op. -/
def manyS (o : ByteArray) (ne : Nat) : Option Nat :=
  if (o.toList == sSet) || ((o.toList == sAssert) || ((o.toList == sAssume) || ((o.toList == sIf) || (o.toList == sWhile)))) then some 1
  else if o.toList == sPut then some 2
  else if o.toList == sInput then some (if 0 < ne then 2 else 0)
  else if (o.toList == sCall) || (o.toList == sSkip) then some 0 else none
def headS (o : ByteArray) (ne na nb : Nat) : Bool :=
  (manyS o ne == some ne) && (((o.toList == sIf) || decide (nb = 0)) && (((o.toList == sIf) || (o.toList == sWhile)) || decide (na = 0)))
mutual
def wholeS : St → Bool
  | .mk o _ e A B _ => headS o e.length A.length B.length && (wholeL e && (wholeB A && wholeB B))
def wholeB : List St → Bool
  | [] => true
  | s :: r => wholeS s && wholeB r
end
theorem wholeS_X (x : St) : wholeS x = (headS x.op x.e.length x.A.length x.B.length && (wholeL x.e && (wholeB x.A && wholeB x.B))) := by cases x; rfl
theorem wholeB_at {l : List St} {i : Nat} {x : St} (h : wholeB l = true) (hx : l[i]? = some x) : wholeS x = true := by
  induction l generalizing i with
  | nil => simp at hx
  | cons y l ih =>
    simp only [wholeB, Bool.and_eq_true] at h
    cases i with
    | zero => simp at hx; subst hx; exact h.1
    | succ i => exact ih h.2 (by simpa using hx)
theorem wholeB_take {l : List St} {k : Nat} {x : St} (h : l[k]? = some x) : wholeB (l.take (k + 1)) = (wholeB (l.take k) && wholeS x) := by
  rw [take_one h]
  generalize l.take k = r
  induction r with
  | nil => simp [wholeB]
  | cons y r ih => simp only [List.cons_append, wholeB, ih, Bool.and_assoc]
theorem manyS_cases {o : ByteArray} {ne mm : Nat} (h : manyS o ne = some mm) : (o = ⟨#[115, 101, 116]⟩ ∧ mm = 1) ∨ (o = ⟨#[97, 115, 115, 101, 114, 116]⟩ ∧ mm = 1) ∨ (o = ⟨#[97, 115, 115, 117, 109, 101]⟩ ∧ mm = 1) ∨ (o = ⟨#[105, 102]⟩ ∧ mm = 1) ∨ (o = ⟨#[119, 104, 105, 108, 101]⟩ ∧ mm = 1) ∨ (o = ⟨#[112, 117, 116]⟩ ∧ mm = 2) ∨ (o = ⟨#[105, 110, 112, 117, 116]⟩ ∧ 0 < ne ∧ mm = 2) ∨ (o = ⟨#[105, 110, 112, 117, 116]⟩ ∧ ne = 0 ∧ mm = 0) ∨ (o = ⟨#[99, 97, 108, 108]⟩ ∧ mm = 0) ∨ (o = ⟨#[115, 107, 105, 112]⟩ ∧ mm = 0) := by
  unfold manyS at h
  split at h
  · rename_i c
    injection h with h
    subst h
    simp only [Bool.or_eq_true] at c
    rcases c with c | c | c | c | c
    · exact .inl ⟨lit_of c, rfl⟩
    · exact .inr (.inl ⟨lit_of c, rfl⟩)
    · exact .inr (.inr (.inl ⟨lit_of c, rfl⟩))
    · exact .inr (.inr (.inr (.inl ⟨lit_of c, rfl⟩)))
    · exact .inr (.inr (.inr (.inr (.inl ⟨lit_of c, rfl⟩))))
  · split at h
    · rename_i c
      injection h with h
      subst h
      exact .inr (.inr (.inr (.inr (.inr (.inl ⟨lit_of c, rfl⟩)))))
    · split at h
      · rename_i c
        injection h with h
        subst h
        by_cases hn : 0 < ne
        · exact .inr (.inr (.inr (.inr (.inr (.inr (.inl ⟨lit_of c, hn, by rw [if_pos hn]⟩))))))
        · exact .inr (.inr (.inr (.inr (.inr (.inr (.inr (.inl ⟨lit_of c, by omega, by rw [if_neg hn]⟩)))))))
      · split at h
        · rename_i c
          injection h with h
          subst h
          simp only [Bool.or_eq_true] at c
          rcases c with c | c
          · exact .inr (.inr (.inr (.inr (.inr (.inr (.inr (.inr (.inl ⟨lit_of c, rfl⟩))))))))
          · exact .inr (.inr (.inr (.inr (.inr (.inr (.inr (.inr (.inr ⟨lit_of c, rfl⟩))))))))
        · cases h
theorem manyS_none {o : ByteArray} {ne : Nat} (h : manyS o ne = none) : (o.toList == [115, 101, 116]) = false ∧ (o.toList == [97, 115, 115, 101, 114, 116]) = false ∧ (o.toList == [97, 115, 115, 117, 109, 101]) = false ∧ (o.toList == [105, 102]) = false ∧ (o.toList == [119, 104, 105, 108, 101]) = false ∧ (o.toList == [112, 117, 116]) = false ∧ (o.toList == [105, 110, 112, 117, 116]) = false ∧ (o.toList == [99, 97, 108, 108]) = false ∧ (o.toList == [115, 107, 105, 112]) = false := by
  unfold manyS at h
  split at h
  · cases h
  · rename_i c1
    split at h
    · cases h
    · rename_i c2
      split at h
      · cases h
      · rename_i c3
        split at h
        · cases h
        · rename_i c4
          simp only [Bool.or_eq_true, not_or, Bool.not_eq_true] at c1 c2 c3 c4
          exact ⟨c1.1, c1.2.1, c1.2.2.1, c1.2.2.2.1, c1.2.2.2.2, c2, c3, c4.1, c4.2⟩
theorem ExR.at_ {P : Nat → Prop} {n : Nat} {w : World} {l : List Ex} {A : Option Addr} {m c : Nat} (h : ExR P n w l (.slice A m c)) : ∀ (i : Nat) (x : Ex), l[i]? = some x → ∃ b off L, A = some ⟨b, off, none⟩ ∧ P b ∧ At5 w b (off + i * 5) x L ∧ In64 x.n ∧ In64 x.a ∧ ExR P (n - 1) w x.l L := by
  cases n with
  | zero => exact h.elim
  | succ n =>
    obtain ⟨A', cap, e, -, -, h4⟩ := h
    injection e with e1 e2 e3
    subst e1
    exact h4
/-- Of a whole program. -/
def wholeP (p : Pg) : Bool := p.procs.all (fun q => wholeB q.2) && wholeB p.main
end Go.Proofs.YteaongdlbleehaaGreatDoor
