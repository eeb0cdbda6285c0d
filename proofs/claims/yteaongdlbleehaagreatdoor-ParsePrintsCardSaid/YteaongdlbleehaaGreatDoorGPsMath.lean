/- Put together of: PsMath, PsStM. -/
import Derived.Test.YteaongdlbleehaaGreatDoorTrMath
import Derived.Test.YteaongdlbleehaaGreatDoorGLxMath
/- The parse layer: what a row of tokens is read as, told plainly. -/
namespace Go.Proofs.YteaongdlbleehaaGreatDoor

/-- Some bytes, as a string. -/
abbrev bA (l : Bs) : ByteArray := ⟨l.toArray⟩
/-- What is not read yet, and the first fault: where, and which (0: none). -/
structure PS where
  ts : List Tok
  at_ : Nat
  no : Nat
def tEnum : Bs := [101, 110, 117, 109]
def tVar : Bs := [118, 97, 114]
def tProc : Bs := [112, 114, 111, 99]
def tMain : Bs := [109, 97, 105, 110]
def tElse : Bs := [101, 108, 115, 101]
def tInt : Bs := [105, 110, 116]
def tBool : Bs := [98, 111, 111, 108]
def tAName : Bs := [97, 32, 110, 97, 109, 101]
/-- The names that have a meaning of their own. -/
def resL : List Bs := [tEnum, tVar, tProc, tMain, sIf, tElse, sWhile, sAssert, sAssume, sCall, sSkip, sInput, oTrue, oFalse, tInt, tBool]
def levL (t : Bs) : Nat :=
  if t == [124, 124] then 1 else if t == [38, 38] then 2
  else if [[61, 61], [33, 61], [60], [60, 61], [62], [62, 61]].contains t then 3
  else if t == [43] || t == [45] then 4 else if t == [42] || t == [47] then 5 else 0
section
variable (len : Nat)
def nxt (s : PS) : Tok := match s.ts with | [] => ⟨2, [], 0, len⟩ | t :: _ => t
def failF (e : Nat) (s : PS) : PS := if s.no = 0 then ⟨[], (nxt len s).at_, e⟩ else s
def takeF (s : PS) : PS := ⟨s.ts.tail, s.at_, s.no⟩
def isF (t : Bs) (s : PS) : Bool := (nxt len s).text == t
def isNm (t : Tok) : Bool := t.kind == 0 && !resL.contains t.text
def expF (t : Bs) (s : PS) : PS := if isF len t s then takeF s else failF len 130 s
def nameF (s : PS) : PS × Bs := if isNm (nxt len s) then (takeF s, (nxt len s).text) else (failF len 130 s, [])
def enterF (d : Nat) (s : PS) : PS := takeF (if 32 ≤ d then failF len 131 s else s)

/-! ### Expressions -/
inductive Md where
  | part
  | parts (of : Nat)
  | loop (of : Nat) (e : Ex)
def ex0 : Ex := .mk ⟨#[]⟩ ⟨#[]⟩ 0 [] 0
def exF : Nat → Md → Nat → PS → PS × Ex
  | 0, _, _, s => (s, ex0)
  | f + 1, .part, d, s =>
    if (nxt len s).text == [45] then
      ((exF f .part (d + 1) (enterF len d s)).1, .mk (bA oNeg) ⟨#[]⟩ 0 [(exF f .part (d + 1) (enterF len d s)).2] (nxt len s).at_)
    else if (nxt len s).text == [33] then
      ((exF f .part (d + 1) (enterF len d s)).1, .mk (bA oNot) ⟨#[]⟩ 0 [(exF f .part (d + 1) (enterF len d s)).2] (nxt len s).at_)
    else if (nxt len s).text == [40] then
      (expF len [41] (exF f (.parts 1) (d + 1) (enterF len d s)).1, (exF f (.parts 1) (d + 1) (enterF len d s)).2)
    else if (nxt len s).text == oTrue || (nxt len s).text == oFalse then (takeF s, .mk (bA (nxt len s).text) ⟨#[]⟩ 0 [] (nxt len s).at_)
    else if (nxt len s).kind = 1 then (takeF s, .mk (bA oNum) ⟨#[]⟩ (nxt len s).n [] (nxt len s).at_)
    else if isNm (nxt len s) then
      if isF len [91] (takeF s) then
        (expF len [93] (exF f (.parts 1) (d + 1) (enterF len d (takeF s))).1, .mk (bA oAt) (bA (nxt len s).text) 0 [(exF f (.parts 1) (d + 1) (enterF len d (takeF s))).2] (nxt len s).at_)
      else (takeF s, .mk (bA oName) (bA (nxt len s).text) 0 [] (nxt len s).at_)
    else (failF len 130 s, ex0)
  | f + 1, .parts of, d, s =>
    if of = 6 then exF f .part d s
    else exF f (.loop of (exF f (.parts (of + 1)) d s).2) d (exF f (.parts (of + 1)) d s).1
  | f + 1, .loop of e, d, s =>
    if levL (nxt len s).text = of then
      if of = 3 then
        ((exF f (.parts (of + 1)) d (takeF s)).1, .mk (bA (nxt len s).text) ⟨#[]⟩ 0 [e, (exF f (.parts (of + 1)) d (takeF s)).2] (nxt len s).at_)
      else exF f (.loop of (.mk (bA (nxt len s).text) ⟨#[]⟩ 0 [e, (exF f (.parts (of + 1)) d (takeF s)).2] (nxt len s).at_)) d (exF f (.parts (of + 1)) d (takeF s)).1
    else (s, e)
/-- As much as an expression may want. -/
def exE (s : PS) : PS × Ex := exF len (8 * s.ts.length + 7) (.parts 1) 0 s

/-! ### Statements -/
def st0 : St := .mk ⟨#[]⟩ ⟨#[]⟩ [] [] [] 0
def putS (nm : Bs) (a : Int) (s : PS) : PS × St :=
  (expF len [59] (exE len (expF len [61] (expF len [93] (exE len s).1))).1,
    .mk (bA sPut) (bA nm) [(exE len s).2, (exE len (expF len [61] (expF len [93] (exE len s).1))).2] [] [] a)
def inputS (nm : Bs) (a : Int) (s : PS) : PS × St :=
  if isF len [40] s then
    (expF len [59] (expF len [41] (exE len (expF len [44] (exE len (takeF s)).1)).1),
      .mk (bA sInput) (bA nm) [(exE len (takeF s)).2, (exE len (expF len [44] (exE len (takeF s)).1)).2] [] [] a)
  else (expF len [59] s, .mk (bA sInput) (bA nm) [] [] [] a)
def changeS (nm : Bs) (a : Int) (s : PS) : PS × St :=
  if isF len [91] s then putS len nm a (takeF s)
  else if isF len sInput (expF len [61] s) then inputS len nm a (takeF (expF len [61] s))
  else (expF len [59] (exE len (expF len [61] s)).1, .mk (bA sSet) (bA nm) [(exE len (expF len [61] s)).2] [] [] a)
variable (blk : PS → PS × List St)
def loopS (op : Bs) (a : Int) (s : PS) : PS × St :=
  ((blk (exE len s).1).1, .mk (bA op) ⟨#[]⟩ [(exE len s).2] (blk (exE len s).1).2 [] a)
def choiceS (op : Bs) (a : Int) (s : PS) : PS × St :=
  if isF len tElse (blk (exE len s).1).1 then
    ((blk (takeF (blk (exE len s).1).1)).1, .mk (bA op) ⟨#[]⟩ [(exE len s).2] (blk (exE len s).1).2 (blk (takeF (blk (exE len s).1).1)).2 a)
  else loopS len blk op a s
def claimS (op : Bs) (a : Int) (s : PS) : PS × St := (expF len [59] (exE len s).1, .mk (bA op) ⟨#[]⟩ [(exE len s).2] [] [] a)
def callS (op : Bs) (a : Int) (s : PS) : PS × St := (expF len [59] (nameF len s).1, .mk (bA op) (bA (nameF len s).2) [] [] [] a)
/-- The key of the rule for a statement. -/
def keyF (t : Tok) : Bs := if isNm t then tAName else t.text
def stmtS (s : PS) : PS × St :=
  let t := nxt len s
  let k := keyF t
  let nm := if isNm t then t.text else []
  if k == tAName then changeS len nm t.at_ (takeF s)
  else if k == sIf then choiceS len blk k t.at_ (takeF s)
  else if k == sWhile then loopS len blk k t.at_ (takeF s)
  else if k == sAssert || k == sAssume then claimS len k t.at_ (takeF s)
  else if k == sCall then callS len k t.at_ (takeF s)
  else if k == sSkip then (expF len [59] (takeF s), .mk (bA k) ⟨#[]⟩ [] [] [] t.at_)
  else (failF len 130 s, st0)
/-- The statements of a block, behind those that there are. -/
def rowsS : Nat → PS → List St → PS × List St
  | 0, s, l => (s, l)
  | f + 1, s, l => if s.no = 0 ∧ isF len [125] s = false then rowsS f (stmtS len blk s).1 (l ++ [(stmtS len blk s).2]) else (s, l)
/-- A block's beginning. -/
def openS (d : Nat) (s : PS) : PS := expF len [123] (if isF len [123] s && decide (16 ≤ d) then failF len 131 s else s)
def blkS : Nat → Nat → PS → PS × List St
  | 0, _, s => (s, [])
  | f + 1, d, s =>
    (expF len [125] (rowsS len (blkS f (d + 1)) ((openS len d s).ts.length + 2) (openS len d s) []).1,
      (rowsS len (blkS f (d + 1)) ((openS len d s).ts.length + 2) (openS len d s) []).2)
def blkE (s : PS) : PS × List St := blkS len 18 0 s

/-! ### Programs -/
/-- More names, each behind a comma. -/
def moreN : Nat → PS → List ByteArray → PS × List ByteArray
  | 0, s, l => (s, l)
  | f + 1, s, l => if isF len [44] s then moreN f (nameF len (takeF s)).1 (l ++ [bA (nameF len (takeF s)).2]) else (s, l)
def enumP (s : PS) : PS × (ByteArray × List ByteArray) :=
  let a := nameF len s
  let b := nameF len (expF len [123] a.1)
  let c := moreN len (b.1.ts.length + 1) b.1 [bA b.2]
  (expF len [125] c.1, (bA a.2, c.2))
def typeP (s : PS) : PS × Bs := if isF len tInt s || isF len tBool s then (takeF s, (nxt len s).text) else nameF len s
/-- How many places. -/
def sizeP (s : PS) : PS × Nat :=
  if (nxt len s).kind = 1 ∧ 1 ≤ (nxt len s).n then (takeF s, (nxt len s).n) else (failF len 130 s, 0)
def varP (s : PS) : PS × (ByteArray × ByteArray × Int) :=
  let a := nameF len s
  let b := typeP len (expF len [58] a.1)
  if isF len [91] b.1 then
    let c := sizeP len (takeF b.1)
    (expF len [59] (expF len [93] c.1), (bA a.2, bA b.2, (c.2 : Int)))
  else (expF len [59] b.1, (bA a.2, bA b.2, 0))
def procP (s : PS) : PS × (ByteArray × List St) :=
  ((blkE len (nameF len s).1).1, (bA (nameF len s).2, (blkE len (nameF len s).1).2))
def declP (s : PS) (q : Pg) : PS × Pg :=
  if isF len tEnum s then ((enumP len (takeF s)).1, ⟨q.enums ++ [(enumP len (takeF s)).2], q.vars, q.procs, q.main⟩)
  else if isF len tVar s then ((varP len (takeF s)).1, ⟨q.enums, q.vars ++ [(varP len (takeF s)).2], q.procs, q.main⟩)
  else if isF len tProc s then ((procP len (takeF s)).1, ⟨q.enums, q.vars, q.procs ++ [(procP len (takeF s)).2], q.main⟩)
  else (failF len 130 s, q)
def declsP : Nat → PS → Pg → PS × Pg
  | 0, s, q => (s, q)
  | f + 1, s, q => if s.no = 0 ∧ isF len tMain s = false then declsP f (declP len s q).1 (declP len s q).2 else (s, q)
def pg0 : Pg := ⟨[], [], [], []⟩
def progP (s : PS) : PS × Pg :=
  let a := declsP len (s.ts.length + 2) s pg0
  let b := blkE len (expF len tMain a.1)
  (b.1, ⟨a.2.enums, a.2.vars, a.2.procs, b.2⟩)
/-- What is read, if all of it is right; else a place and an error. -/
def endP {α : Type} (r : PS × α) : PS := if r.1.ts.isEmpty then r.1 else failF len 130 r.1
end
/-- A text's tree, or where and why it has none. -/
def readT {α : Type} (whole : Nat → PS → PS × α) (none_ : α) (l : Bs) : α × Nat × Nat :=
  if (lexS l).2.2 ≠ 0 then (none_, (lexS l).2.1, (lexS l).2.2)
  else if (endP l.length (whole l.length ⟨(lexS l).1, 0, 0⟩)).no ≠ 0 then (none_, (endP l.length (whole l.length ⟨(lexS l).1, 0, 0⟩)).at_, (endP l.length (whole l.length ⟨(lexS l).1, 0, 0⟩)).no)
  else ((whole l.length ⟨(lexS l).1, 0, 0⟩).2, l.length, 0)
def parseT (l : Bs) : Pg × Nat × Nat := readT progP pg0 l
def exprT (l : Bs) : Ex × Nat × Nat := readT exE ex0 l

/-! ### What is read only comes to an end -/
section
variable {len : Nat} {s : PS}
/-- Behind a fault nothing is left. -/
def PS.good (s : PS) : Prop := s.no ≠ 0 → s.ts = []
theorem fail_len (e : Nat) (s : PS) : (failF len e s).ts.length ≤ s.ts.length := by
  unfold failF; split
  · exact Nat.zero_le _
  · exact Nat.le_refl _
theorem take_len (s : PS) : (takeF s).ts.length = s.ts.length - 1 := by unfold takeF; simp
theorem nxt_text_pos (h : (nxt len s).text ≠ []) : 1 ≤ s.ts.length := by
  unfold nxt at h
  cases hs : s.ts with
  | nil => rw [hs] at h; simp at h
  | cons => simp
theorem enter_len (d : Nat) (h : (nxt len s).text ≠ []) : (enterF len d s).ts.length + 1 ≤ s.ts.length := by
  have := nxt_text_pos h
  unfold enterF
  rw [take_len]
  split
  · have := fail_len (len := len) 131 s; omega
  · omega
theorem exp_len (t : Bs) (s : PS) : (expF len t s).ts.length ≤ s.ts.length := by
  unfold expF; split
  · rw [take_len]; omega
  · exact fail_len _ _
theorem lev_pos {t : Bs} (h : levL t ≠ 0) : t ≠ [] := by rintro rfl; exact h rfl
theorem exF_len (f : Nat) : ∀ (m : Md) (d : Nat) (s : PS), (exF len f m d s).1.ts.length ≤ s.ts.length := by
  induction f with
  | zero => intro m d s; exact Nat.le_refl _
  | succ f ih =>
    intro m d s
    have hE : ∀ s : PS, (nxt len s).text ≠ [] → (enterF len d s).ts.length ≤ s.ts.length := fun s h => by have := enter_len (len := len) d h; omega
    cases m with
    | part =>
      simp only [exF]
      split
      · rename_i h; exact Nat.le_trans (ih _ _ _) (hE s (by intro e; rw [e] at h; simp at h))
      · split
        · rename_i h; exact Nat.le_trans (ih _ _ _) (hE s (by intro e; rw [e] at h; simp at h))
        · split
          · rename_i h; exact Nat.le_trans (exp_len _ _) (Nat.le_trans (ih _ _ _) (hE s (by intro e; rw [e] at h; simp at h)))
          · split
            · rw [take_len]; omega
            · split
              · rw [take_len]; omega
              · split
                · split
                  · rename_i h; exact Nat.le_trans (exp_len _ _) (Nat.le_trans (ih _ _ _) (Nat.le_trans (hE _ (by intro e; unfold isF at h; rw [e] at h; simp at h)) (by rw [take_len]; omega)))
                  · rw [take_len]; omega
                · exact fail_len _ _
    | parts of =>
      simp only [exF]
      split
      · exact ih _ _ _
      · exact Nat.le_trans (ih _ _ _) (ih _ _ _)
    | loop of e =>
      simp only [exF]
      split
      · split
        · exact Nat.le_trans (ih _ _ _) (by rw [take_len]; omega)
        · exact Nat.le_trans (ih _ _ _) (Nat.le_trans (ih _ _ _) (by rw [take_len]; omega))
      · exact Nat.le_refl _
end
end Go.Proofs.YteaongdlbleehaaGreatDoor

/- The parse layer: statements only come to an end. -/
namespace Go.Proofs.YteaongdlbleehaaGreatDoor
section
variable {len : Nat}
theorem exE_len (s : PS) : (exE len s).1.ts.length ≤ s.ts.length := by unfold exE; exact exF_len _ _ _ _
attribute [local irreducible] exE
theorem name_len (s : PS) : (nameF len s).1.ts.length ≤ s.ts.length := by
  unfold nameF; split
  · rw [take_len]; omega
  · exact fail_len _ _
theorem takeF_le (s : PS) : (takeF s).ts.length ≤ s.ts.length := by rw [take_len]; omega
theorem putS_len (nm : Bs) (a : Int) (s : PS) : (putS len nm a s).1.ts.length ≤ s.ts.length := by
  unfold putS
  exact Nat.le_trans (exp_len _ _) (Nat.le_trans (exE_len _) (Nat.le_trans (exp_len _ _) (Nat.le_trans (exp_len _ _) (exE_len _))))
theorem inputS_len (nm : Bs) (a : Int) (s : PS) : (inputS len nm a s).1.ts.length ≤ s.ts.length := by
  unfold inputS; split
  · exact Nat.le_trans (exp_len _ _) (Nat.le_trans (exp_len _ _) (Nat.le_trans (exE_len _) (Nat.le_trans (exp_len _ _) (Nat.le_trans (exE_len _) (takeF_le _)))))
  · exact exp_len _ _
theorem changeS_len (nm : Bs) (a : Int) (s : PS) : (changeS len nm a s).1.ts.length ≤ s.ts.length := by
  unfold changeS; split
  · exact Nat.le_trans (putS_len _ _ _) (takeF_le _)
  · split
    · exact Nat.le_trans (inputS_len _ _ _) (Nat.le_trans (takeF_le _) (exp_len _ _))
    · exact Nat.le_trans (exp_len _ _) (Nat.le_trans (exE_len _) (exp_len _ _))
variable {blk : PS → PS × List St}
theorem loopS_len (hbl : ∀ s, (blk s).1.ts.length ≤ s.ts.length) (op : Bs) (a : Int) (s : PS) : (loopS len blk op a s).1.ts.length ≤ s.ts.length := by
  unfold loopS
  exact Nat.le_trans (hbl _) (exE_len _)
theorem choiceS_len (hbl : ∀ s, (blk s).1.ts.length ≤ s.ts.length) (op : Bs) (a : Int) (s : PS) : (choiceS len blk op a s).1.ts.length ≤ s.ts.length := by
  unfold choiceS; split
  · exact Nat.le_trans (hbl _) (Nat.le_trans (takeF_le _) (Nat.le_trans (hbl _) (exE_len _)))
  · exact loopS_len hbl _ _ _
theorem stmt_nil {s : PS} (h : s.ts = []) : stmtS len blk s = (failF len 130 s, st0) := by
  have hn : nxt len s = ⟨2, [], 0, len⟩ := by unfold nxt; rw [h]
  unfold stmtS
  rw [hn]
  rfl
/-- A statement takes a token, or is none. -/
theorem stmt_dec (hbl : ∀ s, (blk s).1.ts.length ≤ s.ts.length) (s : PS) : (stmtS len blk s).1.ts.length ≤ s.ts.length ∧ (s.no = 0 → (stmtS len blk s).1.no ≠ 0 ∨ (stmtS len blk s).1.ts.length + 1 ≤ s.ts.length) := by
  have hF : (failF len 130 s).ts.length ≤ s.ts.length ∧ (s.no = 0 → (failF len 130 s).no ≠ 0 ∨ (failF len 130 s).ts.length + 1 ≤ s.ts.length) :=
    ⟨fail_len _ _, fun h => Or.inl (by unfold failF; rw [if_pos h]; exact (by decide : (130 : Nat) ≠ 0))⟩
  by_cases h0 : s.ts = []
  · rw [stmt_nil h0]; exact hF
  · have h1 : 1 ≤ s.ts.length := by
      cases hs : s.ts with
      | nil => exact absurd hs h0
      | cons => simp
    have hT : ∀ r : PS × St, r.1.ts.length ≤ (takeF s).ts.length → r.1.ts.length ≤ s.ts.length ∧ (s.no = 0 → r.1.no ≠ 0 ∨ r.1.ts.length + 1 ≤ s.ts.length) := fun r hr => by
      rw [take_len] at hr
      exact ⟨by omega, fun _ => Or.inr (by omega)⟩
    unfold stmtS
    simp only
    split
    · exact hT _ (changeS_len _ _ _)
    split
    · exact hT _ (choiceS_len hbl _ _ _)
    split
    · exact hT _ (loopS_len hbl _ _ _)
    split
    · exact hT _ (by unfold claimS; exact Nat.le_trans (exp_len _ _) (exE_len _))
    split
    · exact hT _ (by unfold callS; exact Nat.le_trans (exp_len _ _) (name_len _))
    split
    · exact hT _ (exp_len _ _)
    · exact hF
theorem prows_len (hbl : ∀ s, (blk s).1.ts.length ≤ s.ts.length) (f : Nat) : ∀ (s : PS) (l : List St), (rowsS len blk f s l).1.ts.length ≤ s.ts.length := by
  induction f with
  | zero => intro s l; exact Nat.le_refl _
  | succ f ih =>
    intro s l
    simp only [rowsS]
    split
    · exact Nat.le_trans (ih _ _) (stmt_dec hbl s).1
    · exact Nat.le_refl _
theorem open_len (d : Nat) (s : PS) : (openS len d s).ts.length ≤ s.ts.length := by
  unfold openS
  refine Nat.le_trans (exp_len _ _) ?_
  split
  · exact fail_len _ _
  · exact Nat.le_refl _
theorem blk_len (f : Nat) : ∀ (d : Nat) (s : PS), (blkS len f d s).1.ts.length ≤ s.ts.length := by
  induction f with
  | zero => intro d s; exact Nat.le_refl _
  | succ f ih => intro d s; exact Nat.le_trans (exp_len _ _) (Nat.le_trans (prows_len (ih (d + 1)) _ _ _) (open_len _ _))
/-- A block that is opened stands in fewer than MaxDepth. -/
theorem open_no {d : Nat} {s : PS} (h : (openS len d s).no = 0) : d ≤ 15 := by
  have hf : ∀ (e : Nat) (s : PS), e ≠ 0 → (failF len e s).no ≠ 0 := fun e s he => by
    unfold failF; split
    · exact he
    · assumption
  unfold openS at h
  split at h
  · unfold expF at h
    split at h
    · exact absurd h (hf _ _ (by decide))
    · exact absurd h (hf _ _ (by decide))
  · rename_i hc
    unfold expF at h
    split at h
    · rename_i hi
      rw [hi] at hc
      simp at hc
      omega
    · exact absurd h (hf _ _ (by decide))
/-- How much a row of statements may still want. -/
def msr (s : PS) : Nat := s.ts.length + (if s.no = 0 then 1 else 0)
theorem msr_step (hbl : ∀ s, (blk s).1.ts.length ≤ s.ts.length) {s : PS} (h : s.no = 0) : msr (stmtS len blk s).1 + 1 ≤ msr s := by
  obtain ⟨h1, h2⟩ := stmt_dec (len := len) hbl s
  unfold msr
  rw [if_pos h]
  rcases h2 h with q | q
  · rw [if_neg q]; omega
  · split <;> omega
theorem rows_stop (g : Nat) {s : PS} (l : List St) (h : ¬ (s.no = 0 ∧ isF len [125] s = false)) : rowsS len blk g s l = (s, l) := by
  cases g with
  | zero => rfl
  | succ g => simp only [rowsS]; rw [if_neg h]
theorem rows_more (g : Nat) {s : PS} (l : List St) (h : s.no = 0 ∧ isF len [125] s = false) : rowsS len blk (g + 1) s l = rowsS len blk g (stmtS len blk s).1 (l ++ [(stmtS len blk s).2]) := by
  simp only [rowsS]; rw [if_pos h]
end
end Go.Proofs.YteaongdlbleehaaGreatDoor
