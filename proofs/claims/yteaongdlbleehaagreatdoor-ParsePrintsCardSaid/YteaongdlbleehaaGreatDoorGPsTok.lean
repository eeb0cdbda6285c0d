/- Put together of: PsTok, PsDg, PsRd, PsRdS. -/
import Derived.Test.YteaongdlbleehaaGreatDoorGPsMath
import Derived.Lib.ItoaMem
import Derived.Lib.ItoaLen
/- The parse layer: the tokens of a tree that is printed; trees that may be read. -/
namespace Go.Proofs.YteaongdlbleehaaGreatDoor

/-- What a token says, wherever it stands: its kind, its text, its number. -/
abbrev T3 := Nat × Bs × Nat
def tk3 (t : Tok) : T3 := (t.kind, t.text, t.n)
abbrev sg (l : Bs) : T3 := (2, l, 0)
abbrev wd (l : Bs) : T3 := (0, l, 0)
def num3 (n : Int) : T3 := (1, Lib.itoa n, n.toNat)
def cloT (p : List T3 × Bool) : List T3 := if p.2 then sg [40] :: (p.1 ++ [sg [41]]) else p.1
def part0T (ts : List (List T3 × Bool)) (i : Nat) : List T3 := (ts[i]?.map (·.1)).getD []
def closT (ts : List (List T3 × Bool)) (i : Nat) : List T3 := (ts[i]?.map cloT).getD []
def formT (o nm : ByteArray) (n : Int) (ts : List (List T3 × Bool)) : List T3 :=
  if o.toList == oNum then [num3 n] else if o.toList == oName then [wd nm.data.toList]
  else if o.toList == oAt then wd nm.data.toList :: sg [91] :: (part0T ts 0 ++ [sg [93]])
  else if o.toList == oNeg then sg [45] :: closT ts 0 else if o.toList == oNot then sg [33] :: closT ts 0
  else if ofTwoO o then closT ts 0 ++ (sg o.data.toList :: closT ts 1)
  else [wd o.data.toList]
mutual
def tkE : Ex → List T3
  | .mk o nm n l _ => formT o nm n (tkL l)
def tkL : List Ex → List (List T3 × Bool)
  | [] => []
  | e :: r => (tkE e, opensO e.op) :: tkL r
end
/-- A part, in brackets where it wants them. -/
def tkC (e : Ex) : List T3 := cloT (tkE e, opensO e.op)
/-- A word: a letter, and what goes on. -/
def WordB (l : Bs) : Prop := ∃ c r, l = c :: r ∧ letterB c = true ∧ (∀ b ∈ r, nameB b = true) ∧ r.length ≤ 15
/-- A name that may be. -/
def NameB (l : Bs) : Prop := WordB l ∧ resL.contains l = false
/-- An expression that may be read. -/
inductive OkE : Ex → Prop
  | num {n a} (h0 : 0 ≤ n) (h1 : n ≤ 1152921504606846976) : OkE (.mk (bA oNum) ⟨#[]⟩ n [] a)
  | name {nm a} (h : NameB nm) : OkE (.mk (bA oName) (bA nm) 0 [] a)
  | at_ {nm x a} (h : NameB nm) (hx : OkE x) : OkE (.mk (bA oAt) (bA nm) 0 [x] a)
  | const {o a} (h : o = oTrue ∨ o = oFalse) : OkE (.mk (bA o) ⟨#[]⟩ 0 [] a)
  | one {o x a} (h : o = oNeg ∨ o = oNot) (hx : OkE x) : OkE (.mk (bA o) ⟨#[]⟩ 0 [x] a)
  | two {o x y a} (h : o ∈ twos) (hx : OkE x) (hy : OkE y) : OkE (.mk (bA o) ⟨#[]⟩ 0 [x, y] a)
theorem bA_l (l : Bs) : (bA l).toList = l := by rw [ByteArray.toList_eq]
theorem bA_data (l : Bs) : (bA l).data.toList = l := rfl
section
variable {n a : Int} {nm o : Bs} {x y : Ex}
theorem tk_num : tkE (.mk (bA oNum) ⟨#[]⟩ n [] a) = [num3 n] := by
  simp only [tkE, formT, bA_l]; rfl
theorem tk_name : tkE (.mk (bA oName) (bA nm) 0 [] a) = [wd nm] := by
  simp only [tkE, formT, bA_l]; rfl
theorem tk_at : tkE (.mk (bA oAt) (bA nm) 0 [x] a) = wd nm :: sg [91] :: (tkE x ++ [sg [93]]) := by
  simp only [tkE, formT, bA_l, tkL]; rfl
theorem tk_const (h : o = oTrue ∨ o = oFalse) : tkE (.mk (bA o) ⟨#[]⟩ 0 [] a) = [wd o] := by
  rcases h with rfl | rfl <;> (simp only [tkE, formT, bA_l, ofTwoO]; rfl)
theorem tk_neg : tkE (.mk (bA oNeg) ⟨#[]⟩ 0 [x] a) = sg [45] :: tkC x := by
  simp only [tkE, formT, bA_l, tkL]; rfl
theorem tk_not : tkE (.mk (bA oNot) ⟨#[]⟩ 0 [x] a) = sg [33] :: tkC x := by
  simp only [tkE, formT, bA_l, tkL]; rfl
theorem twos_cases (h : o ∈ twos) : o = [43] ∨ o = [45] ∨ o = [42] ∨ o = [47] ∨ o = [61, 61] ∨ o = [33, 61] ∨ o = [60] ∨ o = [60, 61] ∨ o = [62] ∨ o = [62, 61] ∨ o = [38, 38] ∨ o = [124, 124] := by
  simpa [twos] using h
theorem tk_two (h : o ∈ twos) : tkE (.mk (bA o) ⟨#[]⟩ 0 [x, y] a) = tkC x ++ (sg o :: tkC y) := by
  rcases twos_cases h with rfl | rfl | rfl | rfl | rfl | rfl | rfl | rfl | rfl | rfl | rfl | rfl <;> (simp only [tkE, formT, bA_l, tkL, ofTwoO]; rfl)
theorem opens_two (h : o ∈ twos) : opensO (bA o) = true := by
  unfold opensO ofTwoO
  rw [bA_l]
  rcases twos_cases h with rfl | rfl | rfl | rfl | rfl | rfl | rfl | rfl | rfl | rfl | rfl | rfl <;> rfl
theorem lev_two (h : o ∈ twos) : 1 ≤ levL o ∧ levL o ≤ 5 := by
  rcases twos_cases h with rfl | rfl | rfl | rfl | rfl | rfl | rfl | rfl | rfl | rfl | rfl | rfl <;> exact ⟨by decide, by decide⟩
theorem opens_lit {o : Bs} {b : Bool} (h : ((o == oNeg) || ((o == oNot) || twos.contains o)) = b) : opensO (bA o) = b := by
  unfold opensO ofTwoO
  rw [bA_l]
  exact h
end
/-- What no sign between two parts, and no bracket ahead of an index, follows. -/
def Rb (R : List T3) : Prop := ∀ t r, R = t :: r → t.2.1 ≠ [91]
def Rend (R : List T3) : Prop := ∀ t r, R = t :: r → t.2.1 ≠ [91] ∧ levL t.2.1 = 0
theorem Rend.rb {R : List T3} (h : Rend R) : Rb R := fun t r e => (h t r e).1
theorem rend_nil : Rend [] := fun t r e => by cases e
theorem rend_sg {l : Bs} {R : List T3} (h : l ≠ [91] ∧ levL l = 0) : Rend (sg l :: R) := fun t r e => by cases e; exact h
theorem rb_sg {l : Bs} {R : List T3} (h : l ≠ [91]) : Rb (sg l :: R) := fun t r e => by cases e; exact h

/-! ### Statements, programs -/
inductive OkS : St → Prop
  | set {nm e a} (h : NameB nm) (he : OkE e) : OkS (.mk (bA sSet) (bA nm) [e] [] [] a)
  | put {nm e f a} (h : NameB nm) (he : OkE e) (hf : OkE f) : OkS (.mk (bA sPut) (bA nm) [e, f] [] [] a)
  | inp {nm a} (h : NameB nm) : OkS (.mk (bA sInput) (bA nm) [] [] [] a)
  | inps {nm e f a} (h : NameB nm) (he : OkE e) (hf : OkE f) : OkS (.mk (bA sInput) (bA nm) [e, f] [] [] a)
  | if_ {e A B a} (he : OkE e) (hA : ∀ s ∈ A, OkS s) (hB : ∀ s ∈ B, OkS s) : OkS (.mk (bA sIf) ⟨#[]⟩ [e] A B a)
  | while_ {e A a} (he : OkE e) (hA : ∀ s ∈ A, OkS s) : OkS (.mk (bA sWhile) ⟨#[]⟩ [e] A [] a)
  | claim {o e a} (h : o = sAssert ∨ o = sAssume) (he : OkE e) : OkS (.mk (bA o) ⟨#[]⟩ [e] [] [] a)
  | call {nm a} (h : NameB nm) : OkS (.mk (bA sCall) (bA nm) [] [] [] a)
  | skip {a} : OkS (.mk (bA sSkip) ⟨#[]⟩ [] [] [] a)
abbrev OkB (l : List St) : Prop := ∀ s ∈ l, OkS s
mutual
def tkS : St → List T3
  | .mk o nm e A B _ =>
    if o.toList == sSet then wd nm.data.toList :: sg [61] :: (part0T (tkL e) 0 ++ [sg [59]])
    else if o.toList == sPut then wd nm.data.toList :: sg [91] :: (part0T (tkL e) 0 ++ (sg [93] :: sg [61] :: (part0T (tkL e) 1 ++ [sg [59]])))
    else if o.toList == sInput then
      (if e.length = 0 then [wd nm.data.toList, sg [61], wd sInput, sg [59]]
      else wd nm.data.toList :: sg [61] :: wd sInput :: sg [40] :: (part0T (tkL e) 0 ++ (sg [44] :: (part0T (tkL e) 1 ++ [sg [41], sg [59]]))))
    else if o.toList == sIf then
      wd sIf :: (part0T (tkL e) 0 ++ (sg [123] :: (tkB A ++ (sg [125] :: (if B.length = 0 then [] else wd tElse :: sg [123] :: (tkB B ++ [sg [125]]))))))
    else if o.toList == sWhile then wd sWhile :: (part0T (tkL e) 0 ++ (sg [123] :: (tkB A ++ [sg [125]])))
    else if (o.toList == sAssert) || (o.toList == sAssume) then wd o.data.toList :: (part0T (tkL e) 0 ++ [sg [59]])
    else if o.toList == sCall then [wd sCall, wd nm.data.toList, sg [59]]
    else [wd o.data.toList, sg [59]]
def tkB : List St → List T3
  | [] => []
  | s :: r => tkS s ++ tkB r
end
/-- More names, each behind a comma. -/
def tkNs : List ByteArray → List T3
  | [] => []
  | n :: r => sg [44] :: wd n.data.toList :: tkNs r
def tkEn (e : ByteArray × List ByteArray) : List T3 :=
  wd tEnum :: wd e.1.data.toList :: sg [123] :: ((match e.2 with | [] => [] | n :: r => wd n.data.toList :: tkNs r) ++ [sg [125]])
def tkVa (v : ByteArray × ByteArray × Int) : List T3 :=
  wd tVar :: wd v.1.data.toList :: sg [58] :: wd v.2.1.data.toList :: ((if 0 < v.2.2 then [sg [91], num3 v.2.2, sg [93]] else []) ++ [sg [59]])
def tkPr (q : ByteArray × List St) : List T3 := wd tProc :: wd q.1.data.toList :: sg [123] :: (tkB q.2 ++ [sg [125]])
def tkP (p : Pg) : List T3 := p.enums.flatMap tkEn ++ (p.vars.flatMap tkVa ++ (p.procs.flatMap tkPr ++ (wd tMain :: sg [123] :: (tkB p.main ++ [sg [125]]))))
structure OkP (p : Pg) : Prop where
  en : ∀ e ∈ p.enums, NameB e.1.data.toList ∧ e.2 ≠ [] ∧ ∀ n ∈ e.2, NameB n.data.toList
  va : ∀ v ∈ p.vars, NameB v.1.data.toList ∧ (v.2.1.data.toList = tInt ∨ v.2.1.data.toList = tBool ∨ NameB v.2.1.data.toList) ∧ 0 ≤ v.2.2 ∧ v.2.2 ≤ 1152921504606846976
  pr : ∀ q ∈ p.procs, NameB q.1.data.toList ∧ OkB q.2
  ma : OkB p.main
end Go.Proofs.YteaongdlbleehaaGreatDoor

/- The parse layer: numbers that are written. -/
namespace Go.Proofs.YteaongdlbleehaaGreatDoor
open Go.Lib (decDigits)
theorem dig_of {k : Nat} (h : k < 10) : (UInt8.ofNat (48 + k)).toNat = 48 + k := by
  simp
  omega
theorem digitB_of {k : Nat} (h : k < 10) : digitB (UInt8.ofNat (48 + k)) = true := by
  unfold digitB
  rw [dig_of h]
  simp
  omega
theorem dec_all (u : Nat) : decDigits u ≠ [] ∧ ∀ b ∈ decDigits u, digitB b = true := by
  induction u using Nat.strongRecOn with
  | _ u ih =>
    rw [decDigits]
    split
    · rename_i h
      exact ⟨by simp, fun b hb => by rw [List.mem_singleton] at hb; subst hb; exact digitB_of h⟩
    · rename_i h
      obtain ⟨-, h2⟩ := ih (u / 10) (by omega)
      refine ⟨by simp, fun b hb => ?_⟩
      rcases List.mem_append.1 hb with hb | hb
      · exact h2 b hb
      · rw [List.mem_singleton] at hb; subst hb; exact digitB_of (Nat.mod_lt _ (by omega))
theorem valF_snoc (c : UInt8) : ∀ (l : Bs) (n : Nat), valF n (l ++ [c]) = (valF n l).bind fun m => if 1152921504606846976 < m * 10 + (c.toNat - 48) then none else some (m * 10 + (c.toNat - 48))
  | [], n => by simp only [List.nil_append, valF, Option.bind_some]
  | b :: l, n => by
    simp only [List.cons_append, valF]
    split
    · rfl
    · exact valF_snoc c l _
theorem valF_dec (u : Nat) (h : u ≤ 1152921504606846976) : valF 0 (decDigits u) = some u := by
  induction u using Nat.strongRecOn with
  | _ u ih =>
    rw [decDigits]
    split
    · rename_i h1
      simp only [valF]
      rw [dig_of h1, if_neg (by omega)]
      congr 1
      omega
    · rename_i h1
      rw [valF_snoc, ih (u / 10) (by omega) (by omega), Option.bind_some, dig_of (Nat.mod_lt _ (by omega)), if_neg (by omega)]
      congr 1
      omega
theorem itoa_dec {n : Int} (h : 0 ≤ n) : Lib.itoa n = decDigits n.toNat := by
  obtain ⟨u, rfl⟩ := Int.eq_ofNat_of_zero_le h
  exact Lib.itoa_nonneg u
/-- Digits alone. -/
theorem digs_all (n : Int) (h : 0 ≤ n) : ∃ c r, Lib.itoa n = c :: r ∧ digitB c = true ∧ ∀ b ∈ r, digitB b = true := by
  rw [itoa_dec h]
  obtain ⟨h1, h2⟩ := dec_all n.toNat
  obtain ⟨l, hl⟩ : ∃ l, decDigits n.toNat = l := ⟨_, rfl⟩
  rw [hl] at h1 h2 ⊢
  cases l with
  | nil => exact absurd rfl h1
  | cons c r => exact ⟨c, r, rfl, h2 c (List.mem_cons_self ..), fun b hb => h2 b (List.mem_cons_of_mem _ hb)⟩
/-- The number that they are. -/
theorem numL_itoa (n : Int) (h : 0 ≤ n) (h1 : n ≤ 1152921504606846976) : numL (Lib.itoa n) = some n.toNat := by
  have hl := Lib.itoa_length_le n (by omega) (by omega)
  unfold numL
  rw [if_neg (by omega), itoa_dec h]
  exact valF_dec _ (by omega)
end Go.Proofs.YteaongdlbleehaaGreatDoor

/- The parse layer: the tokens of an expression are read as it. -/
namespace Go.Proofs.YteaongdlbleehaaGreatDoor
def Need : Md → PS → Nat
  | .part, s => 8 * s.ts.length + 1
  | .parts o, s => 8 * s.ts.length + 8 - o
  | .loop _ _, s => 8 * s.ts.length + 1
/-- With enough fuel it is read as this. -/
def Reads (len : Nat) (m : Md) (d : Nat) (s : PS) (r : PS × Ex) : Prop := ∀ f, Need m s ≤ f → exF len f m d s = r
section
variable {len d a o : Nat} {t : Tok} {ts : List Tok} {s s1 s3 : PS} {x y e : Ex} {r : PS × Ex} {R : List T3}
theorem nxt_c (t : Tok) (r : List Tok) (a e : Nat) : nxt len ⟨t :: r, a, e⟩ = t := rfl
theorem loop_stop (h : levL (nxt len s).text ≠ o) : Reads len (.loop o e) d s (s, e) := fun f hf => by
  simp only [Need] at hf
  obtain ⟨f, rfl⟩ : ∃ q, f = q + 1 := ⟨f - 1, by omega⟩
  simp only [exF]
  rw [if_neg h]
theorem parts_six (h : Reads len .part d s r) : Reads len (.parts 6) d s r := fun f hf => by
  simp only [Need] at hf
  obtain ⟨f, rfl⟩ : ∃ q, f = q + 1 := ⟨f - 1, by omega⟩
  simp only [exF]
  exact h f (by simp only [Need]; omega)
theorem parts_stp (ho : o ≤ 5) (h1 : Reads len (.parts (o + 1)) d s (s1, x)) (h2 : Reads len (.loop o x) d s1 r) (hl : s1.ts.length ≤ s.ts.length) : Reads len (.parts o) d s r := fun f hf => by
  simp only [Need] at hf
  obtain ⟨f, rfl⟩ : ∃ q, f = q + 1 := ⟨f - 1, by omega⟩
  simp only [exF]
  rw [if_neg (by omega), h1 f (by simp only [Need]; omega)]
  exact h2 f (by simp only [Need]; omega)
theorem parts_up (h : Reads len .part d s (s1, x)) (hl : s1.ts.length ≤ s.ts.length) : ∀ j o, o + j = 6 → levL (nxt len s1).text < o → Reads len (.parts o) d s (s1, x) := by
  intro j
  induction j with
  | zero =>
    intro o ho hv
    have : o = 6 := by omega
    subst this
    exact parts_six h
  | succ j ih => intro o ho hv; exact parts_stp (by omega) (ih (o + 1) (by omega) (by omega)) (loop_stop (by omega)) hl
theorem parts_two {lv : Nat} (h1 : Reads len .part d s (s1, x)) (hl1 : s1.ts.length ≤ s.ts.length) (ht : nxt len s1 = t) (hp : 1 ≤ s1.ts.length) (hv : levL t.text = lv) (hlv : 1 ≤ lv ∧ lv ≤ 5)
    (h2 : Reads len .part d (takeF s1) (s3, y)) (hl3 : s3.ts.length ≤ (takeF s1).ts.length) (h0 : levL (nxt len s3).text = 0) :
    ∀ j o, o + j = lv → 1 ≤ o → Reads len (.parts o) d s (s3, .mk (bA t.text) ⟨#[]⟩ 0 [x, y] t.at_) := by
  have hl4 := hl3
  rw [take_len] at hl4
  intro j
  induction j with
  | zero =>
    intro o ho h1o
    have : o = lv := by omega
    subst this
    refine parts_stp (by omega) (parts_up h1 hl1 (6 - (o + 1)) (o + 1) (by omega) (by rw [ht]; omega)) (fun f hf => ?_) hl1
    simp only [Need] at hf
    obtain ⟨f, rfl⟩ : ∃ q, f = q + 1 := ⟨f - 1, by omega⟩
    have hy : exF len f (.parts (o + 1)) d (takeF s1) = (s3, y) := parts_up h2 hl3 (6 - (o + 1)) (o + 1) (by omega) (by omega) f (by simp only [Need]; rw [take_len]; omega)
    simp only [exF]
    rw [ht, if_pos hv, hy]
    split
    · rfl
    · exact loop_stop (by dsimp only; omega) f (by simp only [Need]; omega)
  | succ j ih => intro o ho h1o; exact parts_stp (by omega) (ih (o + 1) (by omega) (by omega)) (loop_stop (by omega)) (by omega)
/-! ### A fault stays -/
theorem part_fault {e : Nat} (he : e ≠ 0) : Reads len .part d ⟨[], a, e⟩ (⟨[], a, e⟩, ex0) := fun f hf => by
  simp only [Need] at hf
  obtain ⟨f, rfl⟩ : ∃ q, f = q + 1 := ⟨f - 1, by omega⟩
  have hn : nxt len ⟨[], a, e⟩ = ⟨2, [], 0, len⟩ := rfl
  simp only [exF, hn]
  rw [if_neg (by decide), if_neg (by decide), if_neg (by decide), if_neg (by decide), if_neg (by decide), if_neg (by simp [isNm])]
  unfold failF
  rw [if_neg he]
theorem parts_fault {e : Nat} (he : e ≠ 0) (ho : 1 ≤ o) (h6 : o ≤ 6) : Reads len (.parts o) d ⟨[], a, e⟩ (⟨[], a, e⟩, ex0) :=
  parts_up (part_fault he) (Nat.le_refl _) (6 - o) o (by omega) (by have : levL (nxt len ⟨[], a, e⟩).text = 0 := rfl; omega)
theorem enter_ok (h : ¬ 32 ≤ d) : enterF len d ⟨t :: ts, a, 0⟩ = ⟨ts, a, 0⟩ := by unfold enterF; rw [if_neg h]; rfl
theorem enter_bad (h : 32 ≤ d) : enterF len d ⟨t :: ts, a, 0⟩ = ⟨[], t.at_, 131⟩ := by unfold enterF; rw [if_pos h]; rfl
theorem exp_hit {w : Bs} (h : t.text = w) : expF len w ⟨t :: ts, a, 0⟩ = ⟨ts, a, 0⟩ := by
  unfold expF isF
  rw [nxt_c, h, if_pos (by simp)]
  rfl
theorem exp_fault {w : Bs} (h : w ≠ []) {e : Nat} (he : e ≠ 0) : expF len w ⟨[], a, e⟩ = ⟨[], a, e⟩ := by
  unfold expF isF
  rw [if_neg (by show ¬ (([] : Bs) == w) = true; cases w with | nil => exact absurd rfl h | cons c r => simp)]
  unfold failF
  rw [if_neg he]
/-! ### Parts -/
theorem part_neg (ht : t.text = [45]) (h : Reads len .part (d + 1) (enterF len d ⟨t :: ts, a, 0⟩) r) : Reads len .part d ⟨t :: ts, a, 0⟩ (r.1, .mk (bA oNeg) ⟨#[]⟩ 0 [r.2] t.at_) := fun f hf => by
  have he := enter_len (len := len) d (s := ⟨t :: ts, a, 0⟩) (by rw [nxt_c, ht]; simp)
  dsimp only at he
  simp only [Need] at hf
  obtain ⟨f, rfl⟩ : ∃ q, f = q + 1 := ⟨f - 1, by omega⟩
  simp only [exF, nxt_c, ht]
  rw [if_pos (by decide), h f (by simp only [Need]; omega)]
theorem part_not (ht : t.text = [33]) (h : Reads len .part (d + 1) (enterF len d ⟨t :: ts, a, 0⟩) r) : Reads len .part d ⟨t :: ts, a, 0⟩ (r.1, .mk (bA oNot) ⟨#[]⟩ 0 [r.2] t.at_) := fun f hf => by
  have he := enter_len (len := len) d (s := ⟨t :: ts, a, 0⟩) (by rw [nxt_c, ht]; simp)
  dsimp only at he
  simp only [Need] at hf
  obtain ⟨f, rfl⟩ : ∃ q, f = q + 1 := ⟨f - 1, by omega⟩
  simp only [exF, nxt_c, ht]
  rw [if_neg (by decide), if_pos (by decide), h f (by simp only [Need]; omega)]
theorem part_open (ht : t.text = [40]) (h : Reads len (.parts 1) (d + 1) (enterF len d ⟨t :: ts, a, 0⟩) r) : Reads len .part d ⟨t :: ts, a, 0⟩ (expF len [41] r.1, r.2) := fun f hf => by
  have he := enter_len (len := len) d (s := ⟨t :: ts, a, 0⟩) (by rw [nxt_c, ht]; simp)
  dsimp only at he
  simp only [Need] at hf
  obtain ⟨f, rfl⟩ : ∃ q, f = q + 1 := ⟨f - 1, by omega⟩
  simp only [exF, nxt_c, ht]
  rw [if_neg (by decide), if_neg (by decide), if_pos (by decide), h f (by simp only [Need]; omega)]
theorem part_const (ht : t.text = oTrue ∨ t.text = oFalse) : Reads len .part d ⟨t :: ts, a, 0⟩ (⟨ts, a, 0⟩, .mk (bA t.text) ⟨#[]⟩ 0 [] t.at_) := fun f hf => by
  simp only [Need] at hf
  obtain ⟨f, rfl⟩ : ∃ q, f = q + 1 := ⟨f - 1, by omega⟩
  rcases ht with ht | ht
  all_goals simp only [exF, nxt_c, ht]
  all_goals rw [if_neg (by decide), if_neg (by decide), if_neg (by decide), if_pos (by decide)]
  all_goals rfl
theorem part_num (h1 : (t.text == [45]) = false) (h2 : (t.text == [33]) = false) (h3 : (t.text == [40]) = false) (h4 : (t.text == oTrue) = false) (h5 : (t.text == oFalse) = false) (hk : t.kind = 1) : Reads len .part d ⟨t :: ts, a, 0⟩ (⟨ts, a, 0⟩, .mk (bA oNum) ⟨#[]⟩ t.n [] t.at_) := fun f hf => by
  simp only [Need] at hf
  obtain ⟨f, rfl⟩ : ∃ q, f = q + 1 := ⟨f - 1, by omega⟩
  have k1 : ((nxt len ⟨t :: ts, a, 0⟩).text == [45]) = false := h1
  have k2 : ((nxt len ⟨t :: ts, a, 0⟩).text == [33]) = false := h2
  have k3 : ((nxt len ⟨t :: ts, a, 0⟩).text == [40]) = false := h3
  have k4 : ((nxt len ⟨t :: ts, a, 0⟩).text == oTrue) = false := h4
  have k5 : ((nxt len ⟨t :: ts, a, 0⟩).text == oFalse) = false := h5
  simp only [exF]
  rw [if_neg (by rw [k1]; decide), if_neg (by rw [k2]; decide), if_neg (by rw [k3]; decide), if_neg (by rw [k4, k5]; decide), if_pos (show (nxt len ⟨t :: ts, a, 0⟩).kind = 1 from hk)]
  rfl
theorem name_ne {l : Bs} (h : NameB l) : (l == [45]) = false ∧ (l == [33]) = false ∧ (l == [40]) = false ∧ (l == oTrue) = false ∧ (l == oFalse) = false := by
  obtain ⟨⟨c, r, rfl, hc, -⟩, hr⟩ := h
  have k : ∀ b : UInt8, letterB b = false → ∀ q, ((c :: r : Bs) == b :: q) = false := fun b hb q => by
    by_cases e : c = b
    · subst e; rw [hb] at hc; cases hc
    · simp [e]
  refine ⟨k 45 (by decide) [], k 33 (by decide) [], k 40 (by decide) [], ?_, ?_⟩
  · cases q : ((c :: r : Bs) == oTrue)
    · rfl
    · rw [show (c :: r) = oTrue by simpa using q] at hr; revert hr; decide
  · cases q : ((c :: r : Bs) == oFalse)
    · rfl
    · rw [show (c :: r) = oFalse by simpa using q] at hr; revert hr; decide
theorem isNm_ok (hk : t.kind = 0) (h : NameB t.text) : isNm t = true := by
  unfold isNm
  rw [hk, h.2]
  rfl
theorem part_name (hk : t.kind = 0) (h : NameB t.text) (hn : isF len [91] ⟨ts, a, 0⟩ = false) : Reads len .part d ⟨t :: ts, a, 0⟩ (⟨ts, a, 0⟩, .mk (bA oName) (bA t.text) 0 [] t.at_) := fun f hf => by
  obtain ⟨h1, h2, h3, h4, h5⟩ := name_ne h
  simp only [Need] at hf
  obtain ⟨f, rfl⟩ : ∃ q, f = q + 1 := ⟨f - 1, by omega⟩
  have k1 : ((nxt len ⟨t :: ts, a, 0⟩).text == [45]) = false := h1
  have k2 : ((nxt len ⟨t :: ts, a, 0⟩).text == [33]) = false := h2
  have k3 : ((nxt len ⟨t :: ts, a, 0⟩).text == [40]) = false := h3
  have k4 : ((nxt len ⟨t :: ts, a, 0⟩).text == oTrue) = false := h4
  have k5 : ((nxt len ⟨t :: ts, a, 0⟩).text == oFalse) = false := h5
  simp only [exF]
  rw [if_neg (by rw [k1]; decide), if_neg (by rw [k2]; decide), if_neg (by rw [k3]; decide), if_neg (by rw [k4, k5]; decide), if_neg (by show ¬ t.kind = 1; rw [hk]; decide), if_pos (show isNm (nxt len ⟨t :: ts, a, 0⟩) = true from isNm_ok hk h), if_neg (by show ¬ isF len [91] ⟨ts, a, 0⟩ = true; rw [hn]; decide)]
  rfl
theorem part_at (hk : t.kind = 0) (h : NameB t.text) (hn : isF len [91] ⟨ts, a, 0⟩ = true) (hr : Reads len (.parts 1) (d + 1) (enterF len d ⟨ts, a, 0⟩) r) : Reads len .part d ⟨t :: ts, a, 0⟩ (expF len [93] r.1, .mk (bA oAt) (bA t.text) 0 [r.2] t.at_) := fun f hf => by
  obtain ⟨h1, h2, h3, h4, h5⟩ := name_ne h
  have he := enter_len (len := len) d (s := ⟨ts, a, 0⟩) (by unfold isF at hn; intro e; rw [e] at hn; cases hn)
  dsimp only at he
  simp only [Need, List.length_cons] at hf
  obtain ⟨f, rfl⟩ : ∃ q, f = q + 1 := ⟨f - 1, by omega⟩
  have k1 : ((nxt len ⟨t :: ts, a, 0⟩).text == [45]) = false := h1
  have k2 : ((nxt len ⟨t :: ts, a, 0⟩).text == [33]) = false := h2
  have k3 : ((nxt len ⟨t :: ts, a, 0⟩).text == [40]) = false := h3
  have k4 : ((nxt len ⟨t :: ts, a, 0⟩).text == oTrue) = false := h4
  have k5 : ((nxt len ⟨t :: ts, a, 0⟩).text == oFalse) = false := h5
  simp only [exF]
  rw [if_neg (by rw [k1]; decide), if_neg (by rw [k2]; decide), if_neg (by rw [k3]; decide), if_neg (by rw [k4, k5]; decide), if_neg (by show ¬ t.kind = 1; rw [hk]; decide), if_pos (show isNm (nxt len ⟨t :: ts, a, 0⟩) = true from isNm_ok hk h), if_pos (show isF len [91] (takeF ⟨t :: ts, a, 0⟩) = true from hn)]
  show (expF len [93] (exF len f (.parts 1) (d + 1) (enterF len d ⟨ts, a, 0⟩)).1, Ex.mk (bA oAt) (bA t.text) 0 [(exF len f (.parts 1) (d + 1) (enterF len d ⟨ts, a, 0⟩)).2] t.at_) = _
  rw [hr f (by simp only [Need]; omega)]
/-! ### What comes of it -/
/-- Read as it was, and this is left; or it was too deep. -/
def OutE (bd : Prop) (a : Nat) (R : List T3) (e : Ex) (r : PS × Ex) : Prop :=
  (∃ ts x, r = (⟨ts, a, 0⟩, x) ∧ ts.map tk3 = R ∧ sameE e x = true) ∨ (∃ a' x, r = (⟨[], a', 131⟩, x) ∧ ¬ bd)
theorem map_cons {u : T3} (h : ts.map tk3 = u :: R) : ∃ t ts', ts = t :: ts' ∧ tk3 t = u ∧ ts'.map tk3 = R := by
  cases ts with
  | nil => simp at h
  | cons t ts' => simp at h; exact ⟨t, ts', rfl, h.1, h.2⟩
theorem tk_sg {l : Bs} (h : tk3 t = sg l) : t.kind = 2 ∧ t.text = l ∧ t.n = 0 := by
  unfold tk3 at h
  simp only [Prod.mk.injEq] at h
  exact h
theorem tk_wd {l : Bs} (h : tk3 t = wd l) : t.kind = 0 ∧ t.text = l ∧ t.n = 0 := by
  unfold tk3 at h
  simp only [Prod.mk.injEq] at h
  exact h
theorem tk_num3 {n : Int} (h : tk3 t = num3 n) : t.kind = 1 ∧ t.text = Lib.itoa n ∧ t.n = n.toNat := by
  unfold tk3 num3 at h
  simp only [Prod.mk.injEq] at h
  exact h
theorem out_lev {bd : Prop} (h : OutE bd a R e r) (hR : Rend R) : levL (nxt len r.1).text = 0 := by
  rcases h with ⟨ts, x, rfl, hts, -⟩ | ⟨a', x, rfl, -⟩
  · cases ts with
    | nil => rfl
    | cons t ts => simp only [List.map_cons] at hts; exact (hR _ _ hts.symm).2
  · rfl
theorem out_len {bd : Prop} (h : OutE bd a R e r) {u : List T3} (hts : ts.map tk3 = u ++ R) : r.1.ts.length ≤ ts.length := by
  have h1 := congrArg List.length hts
  rw [List.length_map, List.length_append] at h1
  rcases h with ⟨ts', x, rfl, h2, -⟩ | ⟨a', x, rfl, -⟩
  · have := congrArg List.length h2
    rw [List.length_map] at this
    show ts'.length ≤ ts.length
    omega
  · exact Nat.zero_le _
theorem OutE.imp {bd bd' : Prop} (h : OutE bd a R e r) (hb : bd' → bd) : OutE bd' a R e r := by
  rcases h with h | ⟨a', x, e, hn⟩
  · exact .inl h
  · exact .inr ⟨a', x, e, fun q => hn (hb q)⟩
/-- As the whole of what is read. -/
def RdA (len : Nat) (e : Ex) : Prop := ∀ d ts R a, ts.map tk3 = tkE e ++ R → Rend R → ∃ r, Reads len (.parts 1) d ⟨ts, a, 0⟩ r ∧ OutE (d + 2 * deepE e ≤ 34) a R e r
/-- As a part. -/
def RdC (len : Nat) (e : Ex) : Prop := ∀ d ts R a, ts.map tk3 = tkC e ++ R → Rb R → ∃ r, Reads len .part d ⟨ts, a, 0⟩ r ∧ OutE (d + 1 + 2 * deepE e ≤ 34) a R e r
theorem up_any {bd : Prop} {u : List T3} (hts : ts.map tk3 = u ++ R) (hR : Rend R) (h : ∃ r, Reads len .part d ⟨ts, a, 0⟩ r ∧ OutE bd a R e r) : ∃ r, Reads len (.parts 1) d ⟨ts, a, 0⟩ r ∧ OutE bd a R e r := by
  obtain ⟨r, h1, h2⟩ := h
  exact ⟨r, parts_up (s1 := r.1) (x := r.2) h1 (out_len h2 hts) 5 1 rfl (by rw [out_lev h2 hR]; omega), h2⟩
theorem deep_pos (e : Ex) : 1 ≤ deepE e := by cases e; simp only [deepE]; omega
/-- In brackets. -/
theorem closed_any (ho : opensO e.op = true) (hA : RdA len e) : RdC len e := fun d ts R a hts hR => by
  unfold tkC cloT at hts
  rw [if_pos ho, List.cons_append, List.append_assoc, List.singleton_append] at hts
  obtain ⟨t, ts, rfl, ht, hts⟩ := map_cons hts
  have ht := (tk_sg ht).2.1
  have hdp := deep_pos e
  by_cases hd : 32 ≤ d
  · refine ⟨_, part_open ht (r := (⟨[], t.at_, 131⟩, ex0)) (by rw [enter_bad hd]; exact parts_fault (by decide) (by decide) (by decide)), .inr ⟨t.at_, ex0, by rw [exp_fault (by decide) (by decide)], by omega⟩⟩
  · obtain ⟨r, h1, h2⟩ := hA (d + 1) ts (sg [41] :: R) a hts (rend_sg ⟨by decide, by decide⟩)
    refine ⟨_, part_open ht (by rw [enter_ok hd]; exact h1), ?_⟩
    rcases h2 with ⟨ts', x, rfl, h3, h4⟩ | ⟨a', x, rfl, hn⟩
    · obtain ⟨u, ts', rfl, hu, h3⟩ := map_cons h3
      exact .inl ⟨ts', x, by rw [exp_hit (tk_sg hu).2.1], h3, h4⟩
    · exact .inr ⟨a', x, by rw [exp_fault (by decide) (by decide)], by omega⟩
theorem bare_any (ho : opensO e.op = false) (h : ∀ d ts R a, ts.map tk3 = tkE e ++ R → Rb R → ∃ r, Reads len .part d ⟨ts, a, 0⟩ r ∧ OutE (d + 2 * deepE e ≤ 34) a R e r) : RdA len e ∧ RdC len e := by
  refine ⟨fun d ts R a hts hR => up_any hts hR (h d ts R a hts hR.rb), fun d ts R a hts hR => ?_⟩
  unfold tkC cloT at hts
  rw [if_neg (by show ¬ opensO e.op = true; rw [ho]; decide)] at hts
  obtain ⟨r, h1, h2⟩ := h d ts R a hts hR
  exact ⟨r, h1, h2.imp (by omega)⟩
theorem num_ne {n : Int} (h : 0 ≤ n) : (Lib.itoa n == [45]) = false ∧ (Lib.itoa n == [33]) = false ∧ (Lib.itoa n == [40]) = false ∧ (Lib.itoa n == oTrue) = false ∧ (Lib.itoa n == oFalse) = false := by
  obtain ⟨c, r, e, hc, -⟩ := digs_all n h
  rw [e]
  have k : ∀ b : UInt8, digitB b = false → ∀ q, ((c :: r : Bs) == b :: q) = false := fun b hb q => by
    by_cases e : c = b
    · subst e; rw [hb] at hc; cases hc
    · simp [e]
  exact ⟨k 45 (by decide) [], k 33 (by decide) [], k 40 (by decide) [], k 116 (by decide) _, k 102 (by decide) _⟩
theorem sameE_refl_mk {o nm : ByteArray} {n : Int} {l l' : List Ex} {p q : Int} (h : sameL l l' = true) : sameE (.mk o nm n l p) (.mk o nm n l' q) = true := by
  simp only [sameE, h, beq_self_eq_true, Bool.and_self]
theorem rb_is {R : List T3} (hts : ts.map tk3 = R) (hR : Rb R) : isF len [91] ⟨ts, a, 0⟩ = false := by
  unfold isF
  cases ts with
  | nil => rfl
  | cons t ts =>
    rw [nxt_c]
    have := hR _ _ hts.symm
    cases q : (t.text == [91])
    · rfl
    · exact absurd (show t.text = [91] by simpa using q) this
theorem rd_ex (h : OkE e) : RdA len e ∧ RdC len e := by
  induction h with
  | @num n p h0 h1 =>
    refine bare_any (opens_lit rfl) fun d ts R a hts hR => ?_
    rw [tk_num] at hts
    obtain ⟨t, ts, rfl, ht, hts⟩ := map_cons hts
    obtain ⟨k1, k2, k3⟩ := tk_num3 ht
    obtain ⟨n1, n2, n3, n4, n5⟩ := num_ne h0
    rw [← k2] at n1 n2 n3 n4 n5
    refine ⟨_, part_num n1 n2 n3 n4 n5 k1, .inl ⟨ts, _, rfl, hts, ?_⟩⟩
    rw [k3, Int.toNat_of_nonneg h0]
    exact sameE_refl_mk rfl
  | @name nm p h =>
    refine bare_any (opens_lit rfl) fun d ts R a hts hR => ?_
    rw [tk_name] at hts
    obtain ⟨t, ts, rfl, ht, hts⟩ := map_cons hts
    obtain ⟨k1, k2, k3⟩ := tk_wd ht
    refine ⟨_, part_name k1 (by rw [k2]; exact h) (rb_is hts hR), .inl ⟨ts, _, rfl, hts, ?_⟩⟩
    rw [k2]
    exact sameE_refl_mk rfl
  | @at_ nm x p h hx ih =>
    refine bare_any (opens_lit rfl) fun d ts R a hts hR => ?_
    rw [tk_at, List.cons_append, List.cons_append, List.append_assoc, List.singleton_append] at hts
    obtain ⟨t, ts, rfl, ht, hts⟩ := map_cons hts
    obtain ⟨k1, k2, k3⟩ := tk_wd ht
    obtain ⟨u, ts, rfl, hu, hts⟩ := map_cons hts
    have hu := (tk_sg hu).2.1
    have hN : NameB t.text := by rw [k2]; exact h
    have hI : isF len [91] ⟨u :: ts, a, 0⟩ = true := by unfold isF; rw [nxt_c, hu]; decide
    have hdp := deep_pos x
    have hdd : deepE (.mk (bA oAt) (bA nm) 0 [x] p) = 1 + deepE x := by simp only [deepE, deepL, Nat.max_zero]
    rw [hdd]
    by_cases hd : 32 ≤ d
    · refine ⟨_, part_at k1 hN hI (r := (⟨[], u.at_, 131⟩, ex0)) (by rw [enter_bad hd]; exact parts_fault (by decide) (by decide) (by decide)), .inr ⟨u.at_, _, by rw [exp_fault (by decide) (by decide)], by omega⟩⟩
    · obtain ⟨r, h1, h2⟩ := ih.1 (d + 1) ts (sg [93] :: R) a hts (rend_sg ⟨by decide, by decide⟩)
      refine ⟨_, part_at k1 hN hI (by rw [enter_ok hd]; exact h1), ?_⟩
      rcases h2 with ⟨ts', x', rfl, h3, h4⟩ | ⟨a', x', rfl, hn⟩
      · obtain ⟨v, ts', rfl, hv, h3⟩ := map_cons h3
        refine .inl ⟨ts', _, by rw [exp_hit (tk_sg hv).2.1], h3, ?_⟩
        rw [k2]
        exact sameE_refl_mk (by simp only [sameL, h4, Bool.and_self])
      · exact .inr ⟨a', _, by rw [exp_fault (by decide) (by decide)], by omega⟩
  | @const o p h =>
    refine bare_any (opens_lit (by rcases h with rfl | rfl <;> rfl)) fun d ts R a hts hR => ?_
    rw [tk_const h] at hts
    obtain ⟨t, ts, rfl, ht, hts⟩ := map_cons hts
    obtain ⟨k1, k2, k3⟩ := tk_wd ht
    refine ⟨_, part_const (by rw [k2]; exact h), .inl ⟨ts, _, rfl, hts, ?_⟩⟩
    rw [k2]
    exact sameE_refl_mk rfl
  | @one o x p h hx ih =>
    have hop : opensO (Ex.mk (bA o) ⟨#[]⟩ 0 [x] p).op = true := opens_lit (by rcases h with rfl | rfl <;> rfl)
    have hdp := deep_pos x
    have hdd : deepE (.mk (bA o) ⟨#[]⟩ 0 [x] p) = 1 + deepE x := by simp only [deepE, deepL, Nat.max_zero]
    have hA : RdA len (.mk (bA o) ⟨#[]⟩ 0 [x] p) := fun d ts R a hts hR => by
      refine up_any hts hR ?_
      rw [hdd]
      rcases h with rfl | rfl
      · rw [tk_neg] at hts
        obtain ⟨t, ts, rfl, ht, hts⟩ := map_cons hts
        have ht := (tk_sg ht).2.1
        by_cases hd : 32 ≤ d
        · exact ⟨_, part_neg ht (r := (⟨[], t.at_, 131⟩, ex0)) (by rw [enter_bad hd]; exact part_fault (by decide)), .inr ⟨t.at_, _, rfl, by omega⟩⟩
        · obtain ⟨r, h1, h2⟩ := ih.2 (d + 1) ts R a hts hR.rb
          refine ⟨_, part_neg ht (by rw [enter_ok hd]; exact h1), ?_⟩
          rcases h2 with ⟨ts', x', rfl, h3, h4⟩ | ⟨a', x', rfl, hn⟩
          · exact .inl ⟨ts', _, rfl, h3, sameE_refl_mk (by simp only [sameL, h4, Bool.and_self])⟩
          · exact .inr ⟨a', _, rfl, by omega⟩
      · rw [tk_not] at hts
        obtain ⟨t, ts, rfl, ht, hts⟩ := map_cons hts
        have ht := (tk_sg ht).2.1
        by_cases hd : 32 ≤ d
        · exact ⟨_, part_not ht (r := (⟨[], t.at_, 131⟩, ex0)) (by rw [enter_bad hd]; exact part_fault (by decide)), .inr ⟨t.at_, _, rfl, by omega⟩⟩
        · obtain ⟨r, h1, h2⟩ := ih.2 (d + 1) ts R a hts hR.rb
          refine ⟨_, part_not ht (by rw [enter_ok hd]; exact h1), ?_⟩
          rcases h2 with ⟨ts', x', rfl, h3, h4⟩ | ⟨a', x', rfl, hn⟩
          · exact .inl ⟨ts', _, rfl, h3, sameE_refl_mk (by simp only [sameL, h4, Bool.and_self])⟩
          · exact .inr ⟨a', _, rfl, by omega⟩
    exact ⟨hA, closed_any hop hA⟩
  | @two o x y p h hx hy ihx ihy =>
    have hdp := deep_pos x
    have hdd : deepE (.mk (bA o) ⟨#[]⟩ 0 [x, y] p) = 1 + max (deepE x) (deepE y) := by simp only [deepE, deepL, Nat.max_zero]
    have hA : RdA len (.mk (bA o) ⟨#[]⟩ 0 [x, y] p) := fun d ts R a hts hR => by
      rw [hdd]
      rw [tk_two h, List.append_assoc, List.cons_append] at hts
      have hoR : o ≠ [91] := by rcases twos_cases h with rfl | rfl | rfl | rfl | rfl | rfl | rfl | rfl | rfl | rfl | rfl | rfl <;> decide
      obtain ⟨r1, h1, h2⟩ := ihx.2 d ts (sg o :: (tkC y ++ R)) a hts (rb_sg hoR)
      have hl1 := out_len h2 hts
      rcases h2 with ⟨ts1, x', rfl, h3, h4⟩ | ⟨a', x', rfl, hn⟩
      · obtain ⟨t, ts1, rfl, ht, h3⟩ := map_cons h3
        have ht := (tk_sg ht).2.1
        obtain ⟨⟨s3, y'⟩, h5, h6⟩ := ihy.2 d ts1 R a h3 hR.rb
        have hv := out_lev (len := len) h6 hR
        refine ⟨_, parts_two h1 hl1 rfl (by simp) (show levL t.text = levL o by rw [ht]) (lev_two h) h5 (out_len h6 h3) hv (levL o - 1) 1 (by have := (lev_two h).1; omega) (Nat.le_refl _), ?_⟩
        rcases h6 with ⟨ts2, y2, e2, h7, h8⟩ | ⟨a', y2, e2, hn⟩
        · injection e2 with e2 e3
          subst e2 e3
          refine .inl ⟨ts2, _, rfl, h7, ?_⟩
          rw [show (nxt len ⟨t :: ts1, a, 0⟩).text = o from ht]
          exact sameE_refl_mk (by simp only [sameL, h4, h8, Bool.and_self])
        · injection e2 with e2 e3
          subst e2 e3
          exact .inr ⟨a', _, rfl, by omega⟩
      · refine ⟨_, parts_up h1 hl1 5 1 rfl (by have : levL (nxt len ⟨[], a', 131⟩).text = 0 := rfl; omega), .inr ⟨a', x', rfl, by omega⟩⟩
    exact ⟨hA, closed_any (opens_two h) hA⟩
/-- A whole expression. -/
theorem rd_exE (h : OkE e) {ts : List Tok} {R : List T3} (hts : ts.map tk3 = tkE e ++ R) (hR : Rend R) : OutE (2 * deepE e ≤ 34) a R e (exE len ⟨ts, a, 0⟩) := by
  obtain ⟨r, h1, h2⟩ := (rd_ex (len := len) h).1 0 ts R a hts hR
  unfold exE
  rw [h1 _ (by simp only [Need]; omega)]
  rw [Nat.zero_add] at h2
  exact h2
end
end Go.Proofs.YteaongdlbleehaaGreatDoor

/- The parse layer: the tokens of statements are read as them. -/
namespace Go.Proofs.YteaongdlbleehaaGreatDoor
mutual
/-- No expression is too deep. -/
def flatS : St → Prop
  | .mk _ _ e A B _ => (∀ x ∈ e, deepE x ≤ 17) ∧ flatB A ∧ flatB B
def flatB : List St → Prop
  | [] => True
  | s :: r => flatS s ∧ flatB r
end
section
variable {len d a : Nat} {t : Tok} {ts : List Tok} {R : List T3} {s : St} {blk : PS → PS × List St}
def OutS (bd : Prop) (a : Nat) (R : List T3) (s : St) (r : PS × St) : Prop :=
  (∃ ts x, r = (⟨ts, a, 0⟩, x) ∧ ts.map tk3 = R ∧ sameS s x = true) ∨ (∃ a' x, r = (⟨[], a', 131⟩, x) ∧ ¬ bd)
def OutB (bd : Prop) (a : Nat) (R : List T3) (l : List St) (r : PS × List St) : Prop :=
  (∃ ts x, r = (⟨ts, a, 0⟩, x) ∧ ts.map tk3 = R ∧ sameB l x = true) ∨ (∃ a' x, r = (⟨[], a', 131⟩, x) ∧ ¬ bd)
/-- A block, within so many others, is read as it. -/
def BlkOK (blk : PS → PS × List St) (d : Nat) (l : List St) : Prop := ∀ ts R a, ts.map tk3 = sg [123] :: (tkB l ++ (sg [125] :: R)) → OutB (d + depB l ≤ 15 ∧ flatB l) a R l (blk ⟨ts, a, 0⟩)
def BlkF (blk : PS → PS × List St) : Prop := ∀ a, ∃ l, blk ⟨[], a, 131⟩ = (⟨[], a, 131⟩, l)
/-- No else follows. -/
def Rel (R : List T3) : Prop := ∀ t r, R = t :: r → t.2.1 ≠ tElse
theorem exE_fault : exE len ⟨[], a, 131⟩ = (⟨[], a, 131⟩, ex0) := by
  unfold exE
  exact parts_fault (by decide) (by decide) (by decide) _ (by simp only [Need]; omega)
theorem isF_hit {w : Bs} (h : t.text = w) : isF len w ⟨t :: ts, a, 0⟩ = true := by unfold isF; rw [nxt_c, h]; simp
theorem isF_miss {w : Bs} (h : t.text ≠ w) : isF len w ⟨t :: ts, a, 0⟩ = false := by
  unfold isF; rw [nxt_c]
  cases q : (t.text == w)
  · rfl
  · exact absurd (by simpa using q) h
theorem isF_fault {w : Bs} (h : w ≠ []) : isF len w ⟨[], a, 131⟩ = false := by
  unfold isF
  show (([] : Bs) == w) = false
  cases w with
  | nil => exact absurd rfl h
  | cons c r => rfl
theorem isF_rel (hts : ts.map tk3 = R) (hR : Rel R) : isF len tElse ⟨ts, a, 0⟩ = false := by
  cases ts with
  | nil => rfl
  | cons t ts => exact isF_miss (hR _ _ hts.symm)
theorem take_fault : takeF ⟨[], a, 131⟩ = ⟨[], a, 131⟩ := rfl
/-- How an expression begins. -/
theorem head_ex {e : Ex} (h : OkE e) : ∃ u r, tkE e = u :: r ∧ u.2.1 ≠ sInput := by
  have hC : ∀ x, (∃ u r, tkE x = u :: r ∧ u.2.1 ≠ sInput) → ∃ u r, tkC x = u :: r ∧ u.2.1 ≠ sInput := fun x ⟨u, r, e1, e2⟩ => by
    unfold tkC cloT
    split
    · exact ⟨_, _, rfl, by decide⟩
    · exact ⟨u, r, e1, e2⟩
  induction h with
  | @num n p h0 h1 =>
    refine ⟨_, _, tk_num, ?_⟩
    obtain ⟨c, r, e, hc, -⟩ := digs_all n h0
    intro q
    have : Lib.itoa n = sInput := q
    rw [e] at this
    injection this with this
    subst this
    revert hc; decide
  | @name nm p h =>
    refine ⟨_, _, tk_name, fun q => ?_⟩
    have h2 := h.2
    rw [show nm = sInput from q] at h2
    revert h2; decide
  | @at_ nm x p h hx ih =>
    refine ⟨_, _, tk_at, fun q => ?_⟩
    have h2 := h.2
    rw [show nm = sInput from q] at h2
    revert h2; decide
  | @const o p h => exact ⟨_, _, tk_const h, by rcases h with rfl | rfl <;> decide⟩
  | @one o x p h hx ih =>
    rcases h with rfl | rfl
    · exact ⟨_, _, tk_neg, by decide⟩
    · exact ⟨_, _, tk_not, by decide⟩
  | @two o x y p h hx hy ihx ihy =>
    obtain ⟨u, r, e1, e2⟩ := hC x ihx
    exact ⟨u, _, by rw [tk_two h, e1]; rfl, e2⟩
theorem isNm_kw {w : Bs} (ht : t.text = w) (hw : resL.contains w = true) : isNm t = false := by
  unfold isNm
  rw [ht, hw]
  simp
theorem stmt_name (hk : t.kind = 0) (hN : NameB t.text) : stmtS len blk ⟨t :: ts, a, 0⟩ = changeS len t.text t.at_ ⟨ts, a, 0⟩ := by
  simp only [stmtS, keyF, nxt_c, isNm_ok hk hN, if_true]
  rw [if_pos (by decide)]
  rfl
theorem stmt_if (ht : t.text = sIf) : stmtS len blk ⟨t :: ts, a, 0⟩ = choiceS len blk sIf t.at_ ⟨ts, a, 0⟩ := by
  simp only [stmtS, keyF, nxt_c, isNm_kw ht (by decide), ht, Bool.false_eq_true, if_false]
  rw [if_neg (by decide), if_pos (by decide)]
  rfl
theorem stmt_while (ht : t.text = sWhile) : stmtS len blk ⟨t :: ts, a, 0⟩ = loopS len blk sWhile t.at_ ⟨ts, a, 0⟩ := by
  simp only [stmtS, keyF, nxt_c, isNm_kw ht (by decide), ht, Bool.false_eq_true, if_false]
  rw [if_neg (by decide), if_neg (by decide), if_pos (by decide)]
  rfl
theorem stmt_claim {o : Bs} (ho : o = sAssert ∨ o = sAssume) (ht : t.text = o) : stmtS len blk ⟨t :: ts, a, 0⟩ = claimS len o t.at_ ⟨ts, a, 0⟩ := by
  rcases ho with rfl | rfl
  all_goals simp only [stmtS, keyF, nxt_c, isNm_kw ht (by decide), ht, Bool.false_eq_true, if_false]
  all_goals rw [if_neg (by decide), if_neg (by decide), if_neg (by decide), if_pos (by decide)]
  all_goals rfl
theorem stmt_call (ht : t.text = sCall) : stmtS len blk ⟨t :: ts, a, 0⟩ = callS len sCall t.at_ ⟨ts, a, 0⟩ := by
  simp only [stmtS, keyF, nxt_c, isNm_kw ht (by decide), ht, Bool.false_eq_true, if_false]
  rw [if_neg (by decide), if_neg (by decide), if_neg (by decide), if_neg (by decide), if_pos (by decide)]
  rfl
theorem stmt_skip (ht : t.text = sSkip) : stmtS len blk ⟨t :: ts, a, 0⟩ = (expF len [59] ⟨ts, a, 0⟩, .mk (bA sSkip) ⟨#[]⟩ [] [] [] t.at_) := by
  simp only [stmtS, keyF, nxt_c, isNm_kw ht (by decide), ht, Bool.false_eq_true, if_false]
  rw [if_neg (by decide), if_neg (by decide), if_neg (by decide), if_neg (by decide), if_neg (by decide), if_pos (by decide)]
  rfl
theorem name_hit (hk : t.kind = 0) (hN : NameB t.text) : nameF len ⟨t :: ts, a, 0⟩ = (⟨ts, a, 0⟩, t.text) := by
  unfold nameF
  rw [nxt_c, if_pos (isNm_ok hk hN)]
  rfl
theorem sameS_mk {o nm : ByteArray} {e e' : List Ex} {A A' B B' : List St} {p q : Int} (he : sameL e e' = true) (hA : sameB A A' = true) (hB : sameB B B' = true) : sameS (.mk o nm e A B p) (.mk o nm e' A' B' q) = true := by
  simp only [sameS, he, hA, hB, beq_self_eq_true, Bool.and_self]
theorem sameL_one {x y : Ex} (h : sameE x y = true) : sameL [x] [y] = true := by simp only [sameL, h, Bool.and_self]
theorem sameL_two {x y x' y' : Ex} (h : sameE x y = true) (h' : sameE x' y' = true) : sameL [x, x'] [y, y'] = true := by simp only [sameL, h, h', Bool.and_self]
theorem tkS_set {nm : Bs} {e : Ex} {p : Int} : tkS (.mk (bA sSet) (bA nm) [e] [] [] p) = wd nm :: sg [61] :: (tkE e ++ [sg [59]]) := by
  simp only [tkS, bA_l, tkL]; rfl
theorem tkS_put {nm : Bs} {e f : Ex} {p : Int} : tkS (.mk (bA sPut) (bA nm) [e, f] [] [] p) = wd nm :: sg [91] :: (tkE e ++ (sg [93] :: sg [61] :: (tkE f ++ [sg [59]]))) := by
  simp only [tkS, bA_l, tkL]; rfl
theorem tkS_inp {nm : Bs} {p : Int} : tkS (.mk (bA sInput) (bA nm) [] [] [] p) = [wd nm, sg [61], wd sInput, sg [59]] := by
  simp only [tkS, bA_l, tkL]; rfl
theorem tkS_inps {nm : Bs} {e f : Ex} {p : Int} : tkS (.mk (bA sInput) (bA nm) [e, f] [] [] p) = wd nm :: sg [61] :: wd sInput :: sg [40] :: (tkE e ++ (sg [44] :: (tkE f ++ [sg [41], sg [59]]))) := by
  simp only [tkS, bA_l, tkL]; rfl
theorem tkS_if {e : Ex} {A B : List St} {p : Int} : tkS (.mk (bA sIf) ⟨#[]⟩ [e] A B p) = wd sIf :: (tkE e ++ (sg [123] :: (tkB A ++ (sg [125] :: (if B.length = 0 then [] else wd tElse :: sg [123] :: (tkB B ++ [sg [125]])))))) := by
  simp only [tkS, bA_l, tkL]; rfl
theorem tkS_while {e : Ex} {A : List St} {p : Int} : tkS (.mk (bA sWhile) ⟨#[]⟩ [e] A [] p) = wd sWhile :: (tkE e ++ (sg [123] :: (tkB A ++ [sg [125]]))) := by
  simp only [tkS, bA_l, tkL]; rfl
theorem tkS_claim {o : Bs} (ho : o = sAssert ∨ o = sAssume) {e : Ex} {p : Int} : tkS (.mk (bA o) ⟨#[]⟩ [e] [] [] p) = wd o :: (tkE e ++ [sg [59]]) := by
  rcases ho with rfl | rfl <;> (simp only [tkS, bA_l, tkL]; rfl)
theorem tkS_call {nm : Bs} {p : Int} : tkS (.mk (bA sCall) (bA nm) [] [] [] p) = [wd sCall, wd nm, sg [59]] := by
  simp only [tkS, bA_l, tkL]; rfl
theorem tkS_skip {p : Int} : tkS (.mk (bA sSkip) ⟨#[]⟩ [] [] [] p) = [wd sSkip, sg [59]] := by
  simp only [tkS, bA_l, tkL]; rfl
theorem rend_lit {l : Bs} {R : List T3} (h1 : (l == [91]) = false) (h2 : levL l = 0) : Rend (sg l :: R) := rend_sg ⟨fun e => by rw [e] at h1; simp at h1, h2⟩
set_option maxHeartbeats 1600000 in
theorem rd_stmt (h : OkS s) (hF : BlkF blk) (hA : BlkOK blk (d + 1) s.A) (hB : BlkOK blk (d + 1) s.B) (hts : ts.map tk3 = tkS s ++ R) (hR : Rel R) : OutS (d + depS s ≤ 15 ∧ flatS s) a R s (stmtS len blk ⟨ts, a, 0⟩) := by
  have e17 : ∀ e : Ex, deepE e ≤ 17 → 2 * deepE e ≤ 34 := fun e h => by omega
  cases h with
  | @set nm e p hN he =>
    rw [tkS_set, List.cons_append, List.cons_append, List.append_assoc, List.singleton_append] at hts
    obtain ⟨t, ts, rfl, ht, hts⟩ := map_cons hts
    obtain ⟨k1, k2, -⟩ := tk_wd ht
    obtain ⟨u, ts, rfl, hu, hts⟩ := map_cons hts
    have hu := (tk_sg hu).2.1
    have hi : isF len sInput ⟨ts, a, 0⟩ = false := by
      obtain ⟨v, r, e1, e2⟩ := head_ex he
      rw [e1] at hts
      obtain ⟨w, ts, rfl, hw, -⟩ := map_cons hts
      exact isF_miss (by rw [← hw] at e2; exact e2)
    rw [stmt_name k1 (by rw [k2]; exact hN)]
    unfold changeS
    rw [isF_miss (w := [91]) (by rw [hu]; decide), if_neg (by decide), exp_hit hu, hi, if_neg (by decide), k2]
    rcases rd_exE (len := len) (a := a) he hts (rend_lit rfl rfl) with ⟨ts', x, e1, h3, h4⟩ | ⟨a', x, e1, hn⟩
    · obtain ⟨v, ts', rfl, hv, h3⟩ := map_cons h3
      exact .inl ⟨ts', _, by rw [e1, exp_hit (tk_sg hv).2.1], h3, sameS_mk (sameL_one h4) rfl rfl⟩
    · exact .inr ⟨a', _, by rw [e1, exp_fault (by decide) (by decide)], fun q => hn (e17 _ (q.2.1 _ (List.mem_singleton_self _)))⟩
  | @put nm e f p hN he hf =>
    rw [tkS_put, List.cons_append, List.cons_append, List.append_assoc, List.cons_append, List.cons_append, List.append_assoc, List.singleton_append] at hts
    obtain ⟨t, ts, rfl, ht, hts⟩ := map_cons hts
    obtain ⟨k1, k2, -⟩ := tk_wd ht
    obtain ⟨u, ts, rfl, hu, hts⟩ := map_cons hts
    have hu := (tk_sg hu).2.1
    rw [stmt_name k1 (by rw [k2]; exact hN)]
    unfold changeS putS
    rw [isF_hit (w := [91]) hu, if_pos rfl, k2, show takeF ⟨u :: ts, a, 0⟩ = ⟨ts, a, 0⟩ from rfl]
    rcases rd_exE (len := len) (a := a) he hts (rend_lit rfl rfl) with ⟨ts', x, e1, h3, h4⟩ | ⟨a', x, e1, hn⟩
    · obtain ⟨v, ts', rfl, hv, h3⟩ := map_cons h3
      obtain ⟨w, ts', rfl, hw, h3⟩ := map_cons h3
      rw [e1]
      dsimp only
      rw [exp_hit (tk_sg hv).2.1, exp_hit (tk_sg hw).2.1]
      rcases rd_exE (len := len) (a := a) hf h3 (rend_lit rfl rfl) with ⟨ts2, y, e2, h5, h6⟩ | ⟨a', y, e2, hn⟩
      · obtain ⟨z, ts2, rfl, hz, h5⟩ := map_cons h5
        exact .inl ⟨ts2, _, by rw [e2, exp_hit (tk_sg hz).2.1], h5, sameS_mk (sameL_two h4 h6) rfl rfl⟩
      · exact .inr ⟨a', _, by rw [e2, exp_fault (by decide) (by decide)], fun q => hn (e17 _ (q.2.1 _ (by simp)))⟩
    · rw [e1]
      dsimp only
      rw [exp_fault (by decide) (by decide), exp_fault (by decide) (by decide), exE_fault, exp_fault (by decide) (by decide)]
      exact .inr ⟨a', _, rfl, fun q => hn (e17 _ (q.2.1 _ (by simp)))⟩
  | @inp nm p hN =>
    rw [tkS_inp, List.cons_append, List.cons_append, List.cons_append, List.cons_append, List.nil_append] at hts
    obtain ⟨t, ts, rfl, ht, hts⟩ := map_cons hts
    obtain ⟨k1, k2, -⟩ := tk_wd ht
    obtain ⟨u, ts, rfl, hu, hts⟩ := map_cons hts
    have hu := (tk_sg hu).2.1
    obtain ⟨v, ts, rfl, hv, hts⟩ := map_cons hts
    have hv := (tk_wd hv).2.1
    obtain ⟨w, ts, rfl, hw, hts⟩ := map_cons hts
    have hw := (tk_sg hw).2.1
    rw [stmt_name k1 (by rw [k2]; exact hN)]
    unfold changeS inputS
    rw [isF_miss (w := [91]) (by rw [hu]; decide), if_neg (by decide), exp_hit hu, isF_hit hv, if_pos rfl, show takeF ⟨v :: w :: ts, a, 0⟩ = ⟨w :: ts, a, 0⟩ from rfl, isF_miss (w := [40]) (by rw [hw]; decide), if_neg (by decide), exp_hit hw, k2]
    exact .inl ⟨ts, _, rfl, hts, sameS_mk rfl rfl rfl⟩
  | @inps nm e f p hN he hf =>
    rw [tkS_inps, List.cons_append, List.cons_append, List.cons_append, List.cons_append, List.append_assoc, List.cons_append, List.append_assoc, List.cons_append, List.singleton_append] at hts
    obtain ⟨t, ts, rfl, ht, hts⟩ := map_cons hts
    obtain ⟨k1, k2, -⟩ := tk_wd ht
    obtain ⟨u, ts, rfl, hu, hts⟩ := map_cons hts
    have hu := (tk_sg hu).2.1
    obtain ⟨v, ts, rfl, hv, hts⟩ := map_cons hts
    have hv := (tk_wd hv).2.1
    obtain ⟨w, ts, rfl, hw, hts⟩ := map_cons hts
    have hw := (tk_sg hw).2.1
    rw [stmt_name k1 (by rw [k2]; exact hN)]
    unfold changeS inputS
    rw [isF_miss (w := [91]) (by rw [hu]; decide), if_neg (by decide), exp_hit hu, isF_hit hv, if_pos rfl, show takeF ⟨v :: w :: ts, a, 0⟩ = ⟨w :: ts, a, 0⟩ from rfl, isF_hit hw, if_pos rfl, show takeF ⟨w :: ts, a, 0⟩ = ⟨ts, a, 0⟩ from rfl, k2]
    rcases rd_exE (len := len) (a := a) he hts (rend_lit rfl rfl) with ⟨ts', x, e1, h3, h4⟩ | ⟨a', x, e1, hn⟩
    · obtain ⟨v, ts', rfl, hv, h3⟩ := map_cons h3
      rw [e1]
      dsimp only
      rw [exp_hit (tk_sg hv).2.1]
      rcases rd_exE (len := len) (a := a) hf h3 (rend_lit rfl rfl) with ⟨ts2, y, e2, h5, h6⟩ | ⟨a', y, e2, hn⟩
      · obtain ⟨z, ts2, rfl, hz, h5⟩ := map_cons h5
        obtain ⟨z2, ts2, rfl, hz2, h5⟩ := map_cons h5
        exact .inl ⟨ts2, _, by rw [e2, exp_hit (tk_sg hz).2.1, exp_hit (tk_sg hz2).2.1], h5, sameS_mk (sameL_two h4 h6) rfl rfl⟩
      · exact .inr ⟨a', _, by rw [e2, exp_fault (by decide) (by decide), exp_fault (by decide) (by decide)], fun q => hn (e17 _ (q.2.1 _ (by simp)))⟩
    · rw [e1]
      dsimp only
      rw [exp_fault (by decide) (by decide), exE_fault, exp_fault (by decide) (by decide), exp_fault (by decide) (by decide)]
      exact .inr ⟨a', _, rfl, fun q => hn (e17 _ (q.2.1 _ (by simp)))⟩
  | @if_ e A B p he hAo hBo =>
    have hA : BlkOK blk (d + 1) A := hA
    have hB : BlkOK blk (d + 1) B := hB
    rw [tkS_if, List.cons_append, List.append_assoc, List.cons_append, List.append_assoc, List.cons_append] at hts
    obtain ⟨t, ts, rfl, ht, hts⟩ := map_cons hts
    have ht := (tk_wd ht).2.1
    rw [stmt_if ht]
    have hdd : d + depS (.mk (bA sIf) ⟨#[]⟩ [e] A B p) ≤ 15 → d + 1 + depB A ≤ 15 ∧ d + 1 + depB B ≤ 15 := fun q => by simp only [depS] at q; omega
    unfold choiceS loopS
    rcases rd_exE (len := len) (a := a) he hts (rend_lit rfl rfl) with ⟨ts', x, e1, h3, h4⟩ | ⟨a', x, e1, hn⟩
    · rw [e1]
      dsimp only
      rcases hA ts' _ a h3 with ⟨ts2, l2, e2, h5, h6⟩ | ⟨a', l2, e2, hn⟩
      · rw [e2]
        dsimp only
        by_cases hb0 : B.length = 0
        · rw [if_pos hb0, List.nil_append] at h5
          rw [isF_rel h5 hR, if_neg (by decide)]
          have : B = [] := List.length_eq_zero_iff.1 hb0
          subst this
          exact .inl ⟨ts2, _, rfl, h5, sameS_mk (sameL_one h4) h6 rfl⟩
        · rw [if_neg hb0, List.cons_append, List.cons_append, List.append_assoc, List.singleton_append] at h5
          obtain ⟨u, ts2, rfl, hu, h5⟩ := map_cons h5
          rw [isF_hit (tk_wd hu).2.1, if_pos rfl, show takeF ⟨u :: ts2, a, 0⟩ = ⟨ts2, a, 0⟩ from rfl]
          rcases hB ts2 R a h5 with ⟨ts3, l3, e3, h7, h8⟩ | ⟨a', l3, e3, hn⟩
          · rw [e3]
            exact .inl ⟨ts3, _, rfl, h7, sameS_mk (sameL_one h4) h6 h8⟩
          · rw [e3]
            exact .inr ⟨a', _, rfl, fun q => hn ⟨(hdd q.1).2, q.2.2.2⟩⟩
      · rw [e2]
        dsimp only
        rw [isF_fault (by decide), if_neg (by decide)]
        exact .inr ⟨a', _, rfl, fun q => hn ⟨(hdd q.1).1, q.2.2.1⟩⟩
    · obtain ⟨l2, e2⟩ := hF a'
      rw [e1]
      dsimp only
      rw [e2]
      dsimp only
      rw [isF_fault (by decide), if_neg (by decide)]
      exact .inr ⟨a', _, rfl, fun q => hn (e17 _ (q.2.1 _ (by simp)))⟩
  | @while_ e A p he hAo =>
    have hA : BlkOK blk (d + 1) A := hA
    rw [tkS_while, List.cons_append, List.append_assoc, List.cons_append, List.append_assoc, List.singleton_append] at hts
    obtain ⟨t, ts, rfl, ht, hts⟩ := map_cons hts
    have ht := (tk_wd ht).2.1
    rw [stmt_while ht]
    have hdd : d + depS (.mk (bA sWhile) ⟨#[]⟩ [e] A [] p) ≤ 15 → d + 1 + depB A ≤ 15 := fun q => by simp only [depS] at q; omega
    unfold loopS
    rcases rd_exE (len := len) (a := a) he hts (rend_lit rfl rfl) with ⟨ts', x, e1, h3, h4⟩ | ⟨a', x, e1, hn⟩
    · rw [e1]
      dsimp only
      rcases hA ts' R a h3 with ⟨ts2, l2, e2, h5, h6⟩ | ⟨a', l2, e2, hn⟩
      · rw [e2]
        exact .inl ⟨ts2, _, rfl, h5, sameS_mk (sameL_one h4) h6 rfl⟩
      · rw [e2]
        exact .inr ⟨a', _, rfl, fun q => hn ⟨hdd q.1, q.2.2.1⟩⟩
    · obtain ⟨l2, e2⟩ := hF a'
      rw [e1]
      dsimp only
      rw [e2]
      exact .inr ⟨a', _, rfl, fun q => hn (e17 _ (q.2.1 _ (by simp)))⟩
  | @claim o e p ho he =>
    rw [tkS_claim ho, List.cons_append, List.append_assoc, List.singleton_append] at hts
    obtain ⟨t, ts, rfl, ht, hts⟩ := map_cons hts
    have ht := (tk_wd ht).2.1
    rw [stmt_claim ho ht]
    unfold claimS
    rcases rd_exE (len := len) (a := a) he hts (rend_lit rfl rfl) with ⟨ts', x, e1, h3, h4⟩ | ⟨a', x, e1, hn⟩
    · obtain ⟨v, ts', rfl, hv, h3⟩ := map_cons h3
      exact .inl ⟨ts', _, by rw [e1, exp_hit (tk_sg hv).2.1], h3, sameS_mk (sameL_one h4) rfl rfl⟩
    · exact .inr ⟨a', _, by rw [e1, exp_fault (by decide) (by decide)], fun q => hn (e17 _ (q.2.1 _ (List.mem_singleton_self _)))⟩
  | @call nm p hN =>
    rw [tkS_call, List.cons_append, List.cons_append, List.cons_append, List.nil_append] at hts
    obtain ⟨t, ts, rfl, ht, hts⟩ := map_cons hts
    have ht := (tk_wd ht).2.1
    obtain ⟨u, ts, rfl, hu, hts⟩ := map_cons hts
    obtain ⟨k1, k2, -⟩ := tk_wd hu
    obtain ⟨v, ts, rfl, hv, hts⟩ := map_cons hts
    rw [stmt_call ht]
    unfold callS
    rw [name_hit k1 (by rw [k2]; exact hN)]
    dsimp only
    rw [exp_hit (tk_sg hv).2.1, k2]
    exact .inl ⟨ts, _, rfl, hts, sameS_mk rfl rfl rfl⟩
  | @skip p =>
    rw [tkS_skip, List.cons_append, List.cons_append, List.nil_append] at hts
    obtain ⟨t, ts, rfl, ht, hts⟩ := map_cons hts
    have ht := (tk_wd ht).2.1
    obtain ⟨v, ts, rfl, hv, hts⟩ := map_cons hts
    rw [stmt_skip ht, exp_hit (tk_sg hv).2.1]
    exact .inl ⟨ts, _, rfl, hts, sameS_mk rfl rfl rfl⟩
/-! ### Blocks -/
/-- How a statement begins. -/
theorem head_st (h : OkS s) : ∃ u r, tkS s = u :: r ∧ u.2.1 ≠ [125] ∧ u.2.1 ≠ tElse := by
  have hN : ∀ nm, NameB nm → nm ≠ [125] ∧ nm ≠ tElse := fun nm h => by
    refine ⟨?_, ?_⟩
    · rintro rfl
      obtain ⟨⟨c, r, e, hc, -⟩, -⟩ := h
      injection e with e
      subst e
      revert hc; decide
    · rintro rfl
      have := h.2
      revert this; decide
  cases h with
  | @set nm e p h he => exact ⟨_, _, tkS_set, hN _ h⟩
  | @put nm e f p h he hf => exact ⟨_, _, tkS_put, hN _ h⟩
  | @inp nm p h => exact ⟨_, _, tkS_inp, hN _ h⟩
  | @inps nm e f p h he hf => exact ⟨_, _, tkS_inps, hN _ h⟩
  | @if_ e A B p he hA hB => exact ⟨_, _, tkS_if, by decide, by decide⟩
  | @while_ e A p he hA => exact ⟨_, _, tkS_while, by decide, by decide⟩
  | @claim o e p h he => exact ⟨_, _, tkS_claim h, by rcases h with rfl | rfl <;> decide, by rcases h with rfl | rfl <;> decide⟩
  | @call nm p h => exact ⟨_, _, tkS_call, by decide, by decide⟩
  | @skip p => exact ⟨_, _, tkS_skip, by decide, by decide⟩
theorem rel_rows {l : List St} (h : OkB l) : Rel (tkB l ++ (sg [125] :: R)) := fun t r e => by
  cases l with
  | nil => cases e; decide
  | cons s l =>
    obtain ⟨u, r2, e1, -, e2⟩ := head_st (h s (List.mem_cons_self ..))
    simp only [tkB] at e
    rw [e1] at e
    cases e
    exact e2
theorem rows_fault {f : Nat} {l : List St} : rowsS len blk f ⟨[], a, 131⟩ l = (⟨[], a, 131⟩, l) := by
  cases f with
  | zero => rfl
  | succ f => simp only [rowsS]; rw [if_neg (by simp)]
theorem sameB_append {l l' : List St} (h : sameB l l' = true) {s s' : St} (hs : sameS s s' = true) : sameB (l ++ [s]) (l' ++ [s']) = true := by
  induction l generalizing l' with
  | nil =>
    cases l' with
    | nil => simp only [List.nil_append, sameB, hs, Bool.and_self]
    | cons => simp [sameB] at h
  | cons x l ih =>
    cases l' with
    | nil => simp [sameB] at h
    | cons y l' =>
      simp only [sameB, Bool.and_eq_true] at h
      simp only [List.cons_append, sameB, h.1, ih h.2, Bool.and_self]
theorem rd_rows (hF : BlkF blk) : ∀ (l acc acc' : List St) (f : Nat) (ts : List Tok), OkB l → (∀ s ∈ l, BlkOK blk (d + 1) s.A ∧ BlkOK blk (d + 1) s.B) → sameB acc acc' = true → l.length < f → ts.map tk3 = tkB l ++ (sg [125] :: R) →
    OutB (d + depB l ≤ 15 ∧ flatB l) a (sg [125] :: R) (acc ++ l) (rowsS len blk f ⟨ts, a, 0⟩ acc') := by
  intro l
  induction l with
  | nil =>
    intro acc acc' f ts _ _ hacc hf hts
    obtain ⟨f, rfl⟩ : ∃ q, f = q + 1 := ⟨f - 1, by simp only [List.length_nil] at hf; omega⟩
    simp only [tkB, List.nil_append] at hts
    have hts2 := hts
    obtain ⟨t, ts, rfl, ht, hts⟩ := map_cons hts
    simp only [rowsS]
    rw [if_neg (by rw [isF_hit (tk_sg ht).2.1]; simp), List.append_nil]
    exact .inl ⟨_, _, rfl, hts2, hacc⟩
  | cons s l ih =>
    intro acc acc' f ts hl hb hacc hf hts
    simp only [List.length_cons] at hf
    obtain ⟨f, rfl⟩ : ∃ q, f = q + 1 := ⟨f - 1, by omega⟩
    have hs := hl s (List.mem_cons_self ..)
    have hl' : OkB l := fun x hx => hl x (List.mem_cons_of_mem _ hx)
    simp only [tkB, List.append_assoc] at hts
    have hgo : isF len [125] ⟨ts, a, 0⟩ = false := by
      obtain ⟨u, r2, e1, e2, -⟩ := head_st hs
      rw [e1] at hts
      obtain ⟨t, ts, rfl, ht, -⟩ := map_cons hts
      exact isF_miss (by rw [← ht] at e2; exact e2)
    simp only [rowsS]
    rw [if_pos ⟨trivial, hgo⟩]
    have hdd : d + depB (s :: l) ≤ 15 ∧ flatB (s :: l) → (d + depS s ≤ 15 ∧ flatS s) ∧ (d + depB l ≤ 15 ∧ flatB l) := fun q => by
      have q1 := q.1
      simp only [depB] at q1
      exact ⟨⟨by omega, q.2.1⟩, by omega, q.2.2⟩
    have hbs := hb s (List.mem_cons_self ..)
    rcases rd_stmt (len := len) (a := a) (d := d) hs hF hbs.1 hbs.2 hts (rel_rows hl') with ⟨ts', x, e1, h3, h4⟩ | ⟨a', x, e1, hn⟩
    · rw [e1]
      rcases ih (acc ++ [s]) (acc' ++ [x]) f ts' hl' (fun x hx => hb x (List.mem_cons_of_mem _ hx)) (sameB_append hacc h4) (by omega) h3 with h | ⟨a', l', e2, hn⟩
      · rw [List.append_assoc, List.singleton_append] at h
        exact .inl h
      · exact .inr ⟨a', l', e2, fun q => hn (hdd q).2⟩
    · rw [e1, rows_fault]
      exact .inr ⟨a', _, rfl, fun q => hn (hdd q).1⟩
theorem blk_fault (f : Nat) (hf : 1 ≤ f) (d : Nat) : BlkF (blkS len f d) := fun a => by
  obtain ⟨f, rfl⟩ : ∃ q, f = q + 1 := ⟨f - 1, by omega⟩
  have ho : openS len d ⟨[], a, 131⟩ = ⟨[], a, 131⟩ := by
    unfold openS
    rw [isF_fault (by decide), if_neg (by simp), exp_fault (by decide) (by decide)]
  refine ⟨[], ?_⟩
  simp only [blkS]
  rw [ho, rows_fault]
  dsimp only
  rw [exp_fault (by decide) (by decide)]
theorem tkB_len {l : List St} (h : OkB l) : l.length ≤ (tkB l).length := by
  induction l with
  | nil => exact Nat.le_refl _
  | cons s l ih =>
    obtain ⟨u, r, e, -⟩ := head_st (h s (List.mem_cons_self ..))
    have := ih fun x hx => h x (List.mem_cons_of_mem _ hx)
    simp only [tkB, List.length_cons, List.length_append, e]
    omega
theorem OkS.blocks (h : OkS s) : OkB s.A ∧ OkB s.B := by
  cases h with
  | @if_ e A B p he hA hB => exact ⟨hA, hB⟩
  | @while_ e A p he hA => exact ⟨hA, (fun x hx => by cases hx)⟩
  | _ => exact ⟨(fun x hx => by cases hx), (fun x hx => by cases hx)⟩
theorem rd_block (f : Nat) : ∀ d, f + d = 18 → 1 ≤ f → ∀ l, OkB l → BlkOK (blkS len f d) d l := by
  induction f with
  | zero => intro d _ h; omega
  | succ f ih =>
    intro d hfd _ l hl ts R a hts
    have hts2 := hts
    obtain ⟨t, ts, rfl, ht, hts⟩ := map_cons hts
    have ht := (tk_sg ht).2.1
    simp only [blkS]
    by_cases h16 : 16 ≤ d
    · have ho : openS len d ⟨t :: ts, a, 0⟩ = ⟨[], t.at_, 131⟩ := by
        unfold openS
        rw [isF_hit ht, if_pos (by simp [h16])]
        have : failF len 131 ⟨t :: ts, a, 0⟩ = ⟨[], t.at_, 131⟩ := rfl
        rw [this, exp_fault (by decide) (by decide)]
      rw [ho, rows_fault]
      dsimp only
      rw [exp_fault (by decide) (by decide)]
      exact .inr ⟨_, _, rfl, fun q => by have := q.1; omega⟩
    · have ho : openS len d ⟨t :: ts, a, 0⟩ = ⟨ts, a, 0⟩ := by
        unfold openS
        rw [if_neg (by simp [h16]), exp_hit ht]
      rw [ho]
      have hlen := congrArg List.length hts
      rw [List.length_map, List.length_append] at hlen
      have hk := tkB_len hl
      rcases rd_rows (len := len) (a := a) (d := d) (R := R) (blk_fault f (by omega) (d + 1)) l [] [] (ts.length + 2) ts hl (fun s hs => ⟨ih (d + 1) (by omega) (by omega) _ (hl s hs).blocks.1, ih (d + 1) (by omega) (by omega) _ (hl s hs).blocks.2⟩) rfl (by omega) hts with ⟨ts', x, e1, h3, h4⟩ | ⟨a', x, e1, hn⟩
      · rw [e1]
        obtain ⟨v, ts', rfl, hv, h3⟩ := map_cons h3
        exact .inl ⟨ts', x, by dsimp only; rw [exp_hit (tk_sg hv).2.1], h3, h4⟩
      · rw [e1]
        exact .inr ⟨a', x, by dsimp only; rw [exp_fault (by decide) (by decide)], hn⟩
theorem rd_blkE {l : List St} (h : OkB l) (hts : ts.map tk3 = sg [123] :: (tkB l ++ (sg [125] :: R))) : OutB (depB l ≤ 15 ∧ flatB l) a R l (blkE len ⟨ts, a, 0⟩) := by
  have := rd_block (len := len) 18 0 rfl (by decide) l h ts R a hts
  rw [Nat.zero_add] at this
  exact this
end
end Go.Proofs.YteaongdlbleehaaGreatDoor
