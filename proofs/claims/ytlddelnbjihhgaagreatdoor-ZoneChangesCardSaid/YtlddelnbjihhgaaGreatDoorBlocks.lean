/- Blocks that hold one or two variables, known whole. Nothing of the program stands here. -/
import Derived.Test.YtlddelnbjihhgaaGreatDoorProg
import Derived.RangeFuncBox
import Derived.Below
import Derived.OwnWalk
namespace Go.Proofs.YtlddelnbjihhgaaGreatDoor
open Go.RowKit

theorem boxed_below {W W' : World} {B : Nat} {t : TypeId} {v : Value} (h : Boxed W B t v) (hb : Below W.heap.size W W') : Boxed W' B t v := (hb.block B h.lt).trans h
/-- Block B holds two variables. -/
def Duo (W : World) (B : Nat) (t : TypeId) (p q : Value) : Prop := W.heap[B]? = some (.cells #[p, q] t (0, 0))
theorem Duo.lt {W : World} {B : Nat} {t : TypeId} {p q : Value} (h : Duo W B t p q) : B < W.heap.size := (Array.getElem?_eq_some_iff.1 h).1
theorem Duo.cell0 {W : World} {B : Nat} {t : TypeId} {p q : Value} (h : Duo W B t p q) : W.cell? ⟨B, 0, none⟩ = some p := by simp [World.cell?, show W.heap[B]? = _ from h]
theorem Duo.cell1 {W : World} {B : Nat} {t : TypeId} {p q : Value} (h : Duo W B t p q) : W.cell? ⟨B, 1, none⟩ = some q := by simp [World.cell?, show W.heap[B]? = _ from h]
theorem Duo.frozen0 {W : World} {B : Nat} {t : TypeId} {p q : Value} (h : Duo W B t p q) : W.frozen? ⟨B, 0, none⟩ = false := by simp [World.frozen?, show W.heap[B]? = _ from h]
theorem Duo.frozen1 {W : World} {B : Nat} {t : TypeId} {p q : Value} (h : Duo W B t p q) : W.frozen? ⟨B, 1, none⟩ = false := by simp [World.frozen?, show W.heap[B]? = _ from h]
theorem Duo.new (W : World) (t : TypeId) (p q : Value) : Duo (W.alloc (.cells #[p, q] t)) W.heap.size t p q := World.alloc_heap_new W _
theorem Duo.kept {W W' : World} {row : Option Nat} {B : Nat} {t : TypeId} {p q : Value} (h : Duo W B t p q) (hg : W.grownBy W' row) (hne : some B ≠ row) : Duo W' B t p q := (hg.block B h.lt hne).trans h
theorem Duo.alloc {W : World} {B : Nat} {t : TypeId} {p q : Value} (h : Duo W B t p q) (o : Obj) : Duo (W.alloc o) B t p q := h.kept (World.grownBy_alloc W o none) (by simp)
theorem Duo.below {W W' : World} {B : Nat} {t : TypeId} {p q : Value} (h : Duo W B t p q) (hb : Below W.heap.size W W') : Duo W' B t p q := (hb.block B h.lt).trans h
theorem duo_grown_setCell (W : World) (a : Addr) (v : Value) : W.grownBy (W.setCell a v) (some a.block) :=
  ⟨rfl, rfl, rfl, (KeepsWalks.setCell W _ v).size, fun k _ hk => Below.heap_setCell _ _ _ k (fun e => hk (by rw [e]))⟩
theorem Duo.set1 {W : World} {B : Nat} {t : TypeId} {p q : Value} (q' : Value) (h : Duo W B t p q) : Duo (W.setCell ⟨B, 1, none⟩ q') B t p q' := by
  obtain ⟨hlt, hk⟩ := Array.getElem?_eq_some_iff.1 h
  show (W.heap.modify B _)[B]? = _
  rw [Array.getElem?_eq_getElem (by rw [Array.size_modify]; exact hlt), Array.getElem_modify_self, hk]
  rfl
theorem Duo.set0 {W : World} {B : Nat} {t : TypeId} {p q : Value} (p' : Value) (h : Duo W B t p q) : Duo (W.setCell ⟨B, 0, none⟩ p') B t p' q := by
  obtain ⟨hlt, hk⟩ := Array.getElem?_eq_some_iff.1 h
  show (W.heap.modify B _)[B]? = _
  rw [Array.getElem?_eq_getElem (by rw [Array.size_modify]; exact hlt), Array.getElem_modify_self, hk]
  rfl
theorem Duo.other {W : World} {B : Nat} {t : TypeId} {p q : Value} (h : Duo W B t p q) {a : Addr} (hne : B ≠ a.block) (u : Value) : Duo (W.setCell a u) B t p q := h.kept (duo_grown_setCell W a u) (by simpa using hne)
theorem boxed_other {W : World} {B : Nat} {t : TypeId} {v : Value} (h : Boxed W B t v) {a : Addr} (hne : B ≠ a.block) (u : Value) : Boxed (W.setCell a u) B t v := h.kept (duo_grown_setCell W a u) (by simpa using hne)
/-- A slice's own row is not a block of two variables of another type. -/
theorem Duo.not_row {W : World} {B : Nat} {t e : TypeId} {p q : Value} (h : Duo W B t p q) (hte : t ≠ e) {base size k : Nat} {v : Value} {xs : List Value} (hr : W.ownsRow base e size v k xs) : some B ≠ v.ownBlock := by
  rcases hr.2 with ⟨rfl, _⟩ | ⟨g, cap, cur, rfl, _, hgb, _⟩
  · simp [Value.ownBlock]
  · intro e'
    obtain rfl : B = g := by simpa [Value.ownBlock] using e'
    have := (show W.heap[B]? = _ from h).symm.trans hgb
    simp at this
    exact hte this.2
/-- What is said of a block of cells abides a turn of what is no cells. -/
theorem cells_own {X Y : World} {row : Option Nat} {B : Nat} {cs : Array Value} {t : TypeId} (h : X.heap[B]? = some (.cells cs t (0, 0))) (hg : X.grownBy Y row) (hr : ∀ r, row = some r → ∃ o : Obj, X.heap[r]? = some o ∧ o.isCells = false) : Y.heap[B]? = some (.cells cs t (0, 0)) := by
  refine (hg.block B (Array.getElem?_eq_some_iff.1 h).1 (fun e => ?_)).trans h
  obtain ⟨o, ho, hc⟩ := hr B e.symm
  rw [h] at ho; cases ho; cases hc
theorem row_own {X Y : World} {row : Option Nat} {base : Nat} {e : TypeId} {size k : Nat} {v : Value} {xs : List Value} (h : X.ownsRow base e size v k xs) (hg : X.grownBy Y row) (hr : ∀ r, row = some r → ∃ o : Obj, X.heap[r]? = some o ∧ o.isCells = false) : Y.ownsRow base e size v k xs := by
  refine h.kept hg ?_
  rcases h.2 with ⟨rfl, _⟩ | ⟨g, cap, cur, rfl, _, hgb, _⟩
  · exact .inl rfl
  · refine .inr fun e' => ?_
    obtain ⟨o, ho, hc⟩ := hr g (by simpa [Value.ownBlock] using e'.symm)
    rw [hgb] at ho; cases ho; cases hc
theorem own_kept_below {w w' : World} {base : Nat} {e : TypeId} {size n : Nat} {v : Value} {xs : List Value} (h : w.ownsRow base e size v n xs) (hb : Below w.heap.size w w') : w'.ownsRow base e size v n xs :=
  h.kept (row := none) ⟨hb.os, hb.tape, hb.output, hb.size, fun i hi _ => hb.block i hi⟩ (by cases v.ownBlock <;> simp)
/-- A call that changes nothing of what was there leaves the loop's book-keeping. -/
theorem keeps_below {W W' : World} (h : Below W.heap.size W W') (B : Nat) : KeepsFrom B W W' := ⟨h.size, fun k _ _ hk _ => (h.block k (Array.getElem?_eq_some_iff.1 hk).1).trans hk⟩
theorem keeps_setCell (W : World) (a : Addr) (u : Value) (B : Nat) : KeepsFrom B W (W.setCell a u) := (KeepsOthers.setCell W a u).from B
theorem keeps_own {W W' : World} {base : Nat} {e : TypeId} {size k : Nat} {v : Value} {xs : List Value} (hr : W.ownsRow base e size v k xs) (hg : W.grownBy W' v.ownBlock) (B : Nat) : KeepsFrom B W W' := by
  refine ⟨hg.size, fun i o _ hi ho => (hg.block i (Array.getElem?_eq_some_iff.1 hi).1 (fun e => ?_)).trans hi⟩
  rcases hr.2 with ⟨rfl, _⟩ | ⟨g, cap, cur, rfl, _, hgb, _⟩
  · simp [Value.ownBlock] at e
  · obtain rfl : i = g := by simpa [Value.ownBlock] using e
    rw [hgb] at hi; cases hi; cases ho
end Go.Proofs.YtlddelnbjihhgaaGreatDoor
