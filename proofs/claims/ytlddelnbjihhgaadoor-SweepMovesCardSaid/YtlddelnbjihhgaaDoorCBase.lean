/- Words of the sweep layer: Get, Has and Var of an arena; maps of ints whose contents are told plainly. -/
import Derived.Test.YtlddelnbjihhgaaDoorNMore
import Derived.Test.YtlddelnbjihhgaaDoorCMath
import Derived.Maps.OwnSet
import Derived.Maps.AppendAt
namespace Go.Proofs.YtlddelnbjihhgaaDoor
open Go.RowKit
attribute [local go_sem ↓] Go.wp_at_zero Go.wp_at_succ

section
variable {W W1 : World} {own : Nat → Prop} {p lim : Nat} {L : List Nd} {r : Int}
def RetGetS (x1 x2 x3 : Int) (w : World) (e : Ending) (w' : World) : Prop := e = .returned (.tuple #[.agg #[.int .i64 x1, .int .i64 x2, .int .i64 x3], .bool true]) ∧ Below w.heap.size w w'
def RetGetN (w : World) (e : Ending) (w' : World) : Prop := e = .returned (.tuple #[.agg #[.int .i64 0, .int .i64 0, .int .i64 0], .bool false]) ∧ Below w.heap.size w w'
theorem arena_get {k : Nat} {x1 x2 x3 : Int} (h : Arena W own p lim L) (hx : L[k]? = some (x1, x2, x3)) : Calls Tryd.prog 72 #[.pointer (some ⟨p, 0, none⟩), .int .i64 (k : Int)] W (RetGetS x1 x2 x3 W) := by
  obtain ⟨P, T, An, Ap, cn, cp, hR, -⟩ := h
  exact (get_some hR hx).mono fun _ _ h => h
theorem arena_getN (h : Arena W own p lim L) (hr : ¬ (0 ≤ r ∧ r < (L.length : Int))) : Calls Tryd.prog 72 #[.pointer (some ⟨p, 0, none⟩), .int .i64 r] W (RetGetN W) := by
  obtain ⟨P, T, An, Ap, cn, cp, hR, -⟩ := h
  exact (get_none hR (by unfold holdsB; simp; omega)).mono fun _ _ h => h
theorem arena_len (h : Arena W own p lim L) : Calls Tryd.prog 67 #[.pointer (some ⟨p, 0, none⟩)] W (RetW (.int .i64 L.length) W) := by
  obtain ⟨P, T, An, Ap, cn, cp, hR, -⟩ := h
  exact len_any hR.c1
theorem arena_has (h : Arena W own p lim L) : Calls Tryd.prog 69 #[.pointer (some ⟨p, 0, none⟩), .int .i64 r] W (RetW (.bool (hasP L.length r)) W) := by
  obtain ⟨P, T, An, Ap, cn, cp, hR, -⟩ := h
  exact hasA_any hR.c1
end

theorem Blk.up {w : World} {g : Nat} {t : TypeId} {cs : Array Value} (h : Blk w g t cs) (o : Obj) : Blk (w.alloc o) g t cs := h.below ((Below.refl _ _).alloc (Nat.le_refl _) o) h.lt
theorem Blk.new_ {w : World} {n : Nat} (h : w.heap.size = n) (t : TypeId) (cs : Array Value) : Blk (w.alloc (.cells cs t)) n t cs := h ▸ Blk.new w t cs
theorem size_up {w : World} {n : Nat} (h : w.heap.size = n) (o : Obj) : (w.alloc o).heap.size = n + 1 := by rw [World.size_alloc, h]
theorem row_form {w : World} {base n : Nat} {e : TypeId} {size : Nat} {v : Value} {xs : List Value} (h : w.ownsRow base e size v (n + 1) xs) : ∃ g c, v = .slice (some ⟨g, 0, none⟩) (n + 1) c := by
  rcases h.2 with ⟨_, h0⟩ | ⟨g, cap, cur, h', _⟩
  · omega
  · exact ⟨g, cap, h'⟩
/-- A number that an int can be. -/
def I64 (x : Int) : Prop := -9223372036854775808 ≤ x ∧ x ≤ 9223372036854775807
theorem I64.wf {x : Int} (h : I64 x) : (Lit.int .i64 x).wf = true := by
  have h1 : IntKind.i64.min = -9223372036854775808 := by decide
  have h2 : IntKind.i64.max = 9223372036854775807 := by decide
  unfold I64 at h
  simp [Lit.wf, h1, h2]
  omega

/-! ### Maps whose contents are told plainly -/
def IntM (w : World) (b n : Nat) (g : Int → Option Int) : Prop := ∃ D : DataW Unit, w.ownsMap Tryd.prog 3 (plainElem Tryd.prog 3) b n D ∧ ∀ k : Int, Maps.has D (.int .i64 k) = (g k).isSome ∧ ∀ x, g k = some x → D.atKey (.int .i64 k) (.lit (.int .i64 0)) = .lit (.int .i64 x)
def putG (g : Int → Option Int) (k x : Int) : Int → Option Int := fun j => if j = k then some x else g j
section
variable {w w1 : World} {b n : Nat} {g : Int → Option Int}
theorem lit_ne {k j : Int} (h : k ≠ j) : (Lit.int .i64 k) ≠ .int .i64 j := fun e => h (by injection e)
theorem intM_new (w : World) : IntM (w.alloc (.map #[] 0)) w.heap.size 0 fun _ => none :=
  ⟨_, World.ownsMap_made w _ _ _, fun _ => ⟨rfl, fun x h => by cases h⟩⟩
theorem IntM.kept {row : Option Nat} (h : IntM w b n g) (hg : w.grownBy w1 row) (hne : some b ≠ row) : IntM w1 b n g := by
  obtain ⟨D, h, k⟩ := h; exact ⟨D, h.kept hg hne, k⟩
theorem IntM.below {B : Nat} (h : IntM w b n g) (hb : Below B w w1) (hB : b < B) : IntM w1 b n g := by
  obtain ⟨D, ⟨es, clock, hh, r⟩, k⟩ := h
  exact ⟨D, ⟨es, clock, (hb.block b hB).trans hh, r⟩, k⟩
theorem IntM.lt (h : IntM w b n g) : b < w.heap.size := by obtain ⟨D, h, k⟩ := h; exact h.lt
theorem IntM.mono {n' : Nat} (h : IntM w b n g) (hn : n ≤ n') : IntM w b n' g := by obtain ⟨D, h, k⟩ := h; exact ⟨D, h.mono hn, k⟩
theorem IntM.only {own : Nat → Prop} (h : IntM w b n g) (ho : Only own w w1) (hn : ¬ own b) : IntM w1 b n g := by
  have := h.lt
  obtain ⟨D, ⟨es, clock, hh, r⟩, k⟩ := h
  exact ⟨D, ⟨es, clock, (ho.2.2.2.2 b this hn).trans hh, r⟩, k⟩
theorem zero_int (w : World) : (zeroValue 3).run Tryd.prog w = .ok (.int .i64 0) w := by kernel_rfl
theorem IntM.look (h : IntM w b n g) (k : Int) (hk : I64 k) : ∃ c : Int, (Instr.lookup 99 (.map (some b)) (.int .i64 k) true).run Tryd.prog w = .ok (.tuple #[.int .i64 c, .bool (g k).isSome]) w ∧ ∀ x, g k = some x → c = x := by
  obtain ⟨D, h, hD⟩ := h
  obtain ⟨v, ps, hrun, hv⟩ := h.look_ok (Maps.int_keyed Tryd.underlying3) Tryd.underlying99 (zero_int w) (plainElem_int Tryd.underlying3 (by decide)) (Maps.keyOf_int_mk Tryd.underlying3 hk.wf)
  obtain ⟨c, rfl, hc, -⟩ := plainElem_int_inv Tryd.underlying3 hv
  rw [(hD k).1] at hrun
  refine ⟨c, hrun, fun x hx => ?_⟩
  have h1 := (hD k).2 x hx
  simp only [Prod.mk.injEq] at hc
  rw [h1] at hc
  have := hc.1
  simpa using this.symm
theorem IntM.put (h : IntM w b n g) (k x : Int) (hk : I64 k) (hx : I64 x) (hn : n < maxLen) : ∃ w', (Instr.mapUpdate 99 (.map (some b)) (.int .i64 k) (.int .i64 x)).run Tryd.prog w = .ok () w' ∧ IntM w' b (n + 1) (putG g k x) ∧ w.grownBy w' (some b) := by
  obtain ⟨D, h, hD⟩ := h
  obtain ⟨w', h1, h2, h3⟩ := h.update (Maps.int_keyed Tryd.underlying3) Tryd.underlying99 hn (Maps.keyOf_int_mk Tryd.underlying3 hk.wf) (plainElem_int Tryd.underlying3 hx.wf)
  refine ⟨w', h1, ⟨_, h2, fun j => ?_⟩, h3⟩
  by_cases hj : j = k
  · subst hj
    unfold putG
    rw [if_pos rfl]
    exact ⟨Maps.has_put_same h.isMap (show WideAt.IsKeyLit (.int .i64 _) from trivial) _, fun y hy => by cases hy; exact Maps.atKey_put_same h.isMap (show WideAt.IsKeyLit (.int .i64 _) from trivial) _ _⟩
  · unfold putG
    rw [if_neg hj]
    exact ⟨(Maps.has_put_other (lit_ne hj) _).trans (hD j).1, fun y hy => (Maps.atKey_put_other (lit_ne hj) _ _).trans ((hD j).2 y hy)⟩
end
end Go.Proofs.YtlddelnbjihhgaaDoor
