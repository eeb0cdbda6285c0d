/- The tree layer: how trees lie in memory. -/
import Derived.Test.YteaongdlbleehaaGreatDoorTrMath
import Derived.Test.YteaongdlbleehaaGreatDoorProg
import Derived.Below
import Derived.Laws.OwnMore
import Derived.Laws.Rows
import Derived.Laws.AppendOwn
import Derived.WalkKit
import Derived.WalkSpells
import Derived.IntWalk
import Derived.Lib.Hide
namespace Go.Proofs.YteaongdlbleehaaGreatDoor
open Go.RowKit

/-- Five cells of a row: an expression's. -/
def At5 (w : World) (b o : Nat) (x : Ex) (L : Value) : Prop :=
  w.cell? ⟨b, o, none⟩ = some (.string x.op) ∧ w.cell? ⟨b, o + 1, none⟩ = some (.string x.nm) ∧ w.cell? ⟨b, o + 2, none⟩ = some (.int .i64 x.n) ∧ w.cell? ⟨b, o + 3, none⟩ = some L ∧ w.cell? ⟨b, o + 4, none⟩ = some (.int .i64 x.a)
/-- Six cells: a statement's. -/
def At6 (w : World) (b o : Nat) (x : St) (LE LA LB : Value) : Prop :=
  w.cell? ⟨b, o, none⟩ = some (.string x.op) ∧ w.cell? ⟨b, o + 1, none⟩ = some (.string x.nm) ∧ w.cell? ⟨b, o + 2, none⟩ = some LE ∧ w.cell? ⟨b, o + 3, none⟩ = some LA ∧ w.cell? ⟨b, o + 4, none⟩ = some LB ∧ w.cell? ⟨b, o + 5, none⟩ = some (.int .i64 x.a)
def In64 (k : Int) : Prop := -9223372036854775808 ≤ k ∧ k ≤ 9223372036854775807
/-- A row of expressions, in blocks of P, so deep at most. -/
def ExR (P : Nat → Prop) : Nat → World → List Ex → Value → Prop
  | 0, _, _, _ => False
  | n + 1, w, l, v => ∃ A cap, v = .slice A l.length cap ∧ l.length ≤ cap ∧ l.length * 72 ≤ 140737488355328 ∧
      ∀ i x, l[i]? = some x → ∃ b off L, A = some ⟨b, off, none⟩ ∧ P b ∧ At5 w b (off + i * 5) x L ∧ In64 x.n ∧ In64 x.a ∧ ExR P n w x.l L
/-- A row of statements, in blocks of P, so deep at most. -/
def StR (P : Nat → Prop) : Nat → World → List St → Value → Prop
  | 0, _, _, _ => False
  | n + 1, w, l, v => ∃ A cap, v = .slice A l.length cap ∧ l.length ≤ cap ∧ l.length * 112 ≤ 140737488355328 ∧
      ∀ i x, l[i]? = some x → ∃ b off LE LA LB, A = some ⟨b, off, none⟩ ∧ P b ∧ At6 w b (off + i * 6) x LE LA LB ∧ In64 x.a ∧ ExR P n w x.e LE ∧ StR P n w x.A LA ∧ StR P n w x.B LB
/-- An expression as a value. -/
abbrev exV (op nm : ByteArray) (n : Int) (L : Value) (a : Int) : Value := .agg #[.string op, .string nm, .int .i64 n, L, .int .i64 a]
abbrev stV (op nm : ByteArray) (LE LA LB : Value) (a : Int) : Value := .agg #[.string op, .string nm, LE, LA, LB, .int .i64 a]
section
variable {P P' : Nat → Prop} {B n : Nat} {w w' : World} {v : Value}
theorem At5.below {b o : Nat} {x : Ex} {L : Value} (h : At5 w b o x L) (hb : Below B w w') (hB : b < B) : At5 w' b o x L :=
  ⟨(hb.cell (p := ⟨b, _, none⟩) hB).trans h.1, (hb.cell (p := ⟨b, _, none⟩) hB).trans h.2.1, (hb.cell (p := ⟨b, _, none⟩) hB).trans h.2.2.1, (hb.cell (p := ⟨b, _, none⟩) hB).trans h.2.2.2.1, (hb.cell (p := ⟨b, _, none⟩) hB).trans h.2.2.2.2⟩
theorem At6.below {b o : Nat} {x : St} {LE LA LB : Value} (h : At6 w b o x LE LA LB) (hb : Below B w w') (hB : b < B) : At6 w' b o x LE LA LB :=
  ⟨(hb.cell (p := ⟨b, _, none⟩) hB).trans h.1, (hb.cell (p := ⟨b, _, none⟩) hB).trans h.2.1, (hb.cell (p := ⟨b, _, none⟩) hB).trans h.2.2.1, (hb.cell (p := ⟨b, _, none⟩) hB).trans h.2.2.2.1, (hb.cell (p := ⟨b, _, none⟩) hB).trans h.2.2.2.2.1, (hb.cell (p := ⟨b, _, none⟩) hB).trans h.2.2.2.2.2⟩
theorem ExR.below {l : List Ex} (h : ExR P n w l v) (hb : Below B w w') (hP : ∀ b, P b → b < B) : ExR P n w' l v := by
  induction n generalizing l v with
  | zero => exact h
  | succ n ih =>
    obtain ⟨A, cap, h1, h2, h3, h4⟩ := h
    refine ⟨A, cap, h1, h2, h3, fun i x hx => ?_⟩
    obtain ⟨b, off, L, e1, e2, e3, e4, e5, e6⟩ := h4 i x hx
    exact ⟨b, off, L, e1, e2, e3.below hb (hP b e2), e4, e5, ih e6⟩
theorem StR.below {l : List St} (h : StR P n w l v) (hb : Below B w w') (hP : ∀ b, P b → b < B) : StR P n w' l v := by
  induction n generalizing l v with
  | zero => exact h
  | succ n ih =>
    obtain ⟨A, cap, h1, h2, h3, h4⟩ := h
    refine ⟨A, cap, h1, h2, h3, fun i x hx => ?_⟩
    obtain ⟨b, off, LE, LA, LB, e1, e2, e3, e4, e5, e6, e7⟩ := h4 i x hx
    exact ⟨b, off, LE, LA, LB, e1, e2, e3.below hb (hP b e2), e4, e5.below hb hP, ih e6, ih e7⟩
theorem ExR.wide (hP : ∀ b, P b → P' b) {l : List Ex} (h : ExR P n w l v) : ExR P' n w l v := by
  induction n generalizing l v with
  | zero => exact h
  | succ n ih =>
    obtain ⟨A, cap, h1, h2, h3, h4⟩ := h
    refine ⟨A, cap, h1, h2, h3, fun i x hx => ?_⟩
    obtain ⟨b, off, L, e1, e2, e3, e4, e5, e6⟩ := h4 i x hx
    exact ⟨b, off, L, e1, hP b e2, e3, e4, e5, ih e6⟩
theorem StR.wide (hP : ∀ b, P b → P' b) {l : List St} (h : StR P n w l v) : StR P' n w l v := by
  induction n generalizing l v with
  | zero => exact h
  | succ n ih =>
    obtain ⟨A, cap, h1, h2, h3, h4⟩ := h
    refine ⟨A, cap, h1, h2, h3, fun i x hx => ?_⟩
    obtain ⟨b, off, LE, LA, LB, e1, e2, e3, e4, e5, e6, e7⟩ := h4 i x hx
    exact ⟨b, off, LE, LA, LB, e1, hP b e2, e3, e4, e5.wide hP, ih e6, ih e7⟩
/-- More fuel is no less. -/
theorem ExR.more {l : List Ex} (h : ExR P n w l v) : ExR P (n + 1) w l v := by
  induction n generalizing l v with
  | zero => exact h.elim
  | succ n ih =>
    obtain ⟨A, cap, h1, h2, h3, h4⟩ := h
    refine ⟨A, cap, h1, h2, h3, fun i x hx => ?_⟩
    obtain ⟨b, off, L, e1, e2, e3, e4, e5, e6⟩ := h4 i x hx
    exact ⟨b, off, L, e1, e2, e3, e4, e5, ih e6⟩
theorem ExR.le {m : Nat} (hm : n ≤ m) {l : List Ex} (h : ExR P n w l v) : ExR P m w l v := by
  induction hm with
  | refl => exact h
  | step _ ih => exact ih.more
theorem StR.more {l : List St} (h : StR P n w l v) : StR P (n + 1) w l v := by
  induction n generalizing l v with
  | zero => exact h.elim
  | succ n ih =>
    obtain ⟨A, cap, h1, h2, h3, h4⟩ := h
    refine ⟨A, cap, h1, h2, h3, fun i x hx => ?_⟩
    obtain ⟨b, off, LE, LA, LB, e1, e2, e3, e4, e5, e6, e7⟩ := h4 i x hx
    exact ⟨b, off, LE, LA, LB, e1, e2, e3, e4, e5.more, ih e6, ih e7⟩
theorem StR.le {m : Nat} (hm : n ≤ m) {l : List St} (h : StR P n w l v) : StR P m w l v := by
  induction hm with
  | refl => exact h
  | step _ ih => exact ih.more
theorem ExR.slice {l : List Ex} (h : ExR P n w l v) : ∃ A cap, v = .slice A l.length cap ∧ l.length ≤ cap ∧ l.length * 72 ≤ 140737488355328 := by
  cases n with
  | zero => exact h.elim
  | succ n => obtain ⟨A, cap, h1, h2, h3, -⟩ := h; exact ⟨A, cap, h1, h2, h3⟩
theorem StR.slice {l : List St} (h : StR P n w l v) : ∃ A cap, v = .slice A l.length cap ∧ l.length ≤ cap ∧ l.length * 112 ≤ 140737488355328 := by
  cases n with
  | zero => exact h.elim
  | succ n => obtain ⟨A, cap, h1, h2, h3, -⟩ := h; exact ⟨A, cap, h1, h2, h3⟩
end
theorem lo_up {P : Nat → Prop} {w w' : World} (hP : ∀ b, P b → b < w.heap.size) (h : w.heap.size ≤ w'.heap.size) : ∀ b, P b → b < w'.heap.size := fun b h1 => Nat.lt_of_lt_of_le (hP b h1) h
theorem thru {w w1 w2 : World} (h : Below w.heap.size w w1) (h2 : Below w1.heap.size w1 w2) : Below w.heap.size w w2 := h.trans (h2.mono h.size)
/-! ### Sums that may wrap -/
/-- A number as an int has it. -/
def W64 (k : Nat) : Int := IntKind.i64.wrap (k : Int)
end Go.Proofs.YteaongdlbleehaaGreatDoor
