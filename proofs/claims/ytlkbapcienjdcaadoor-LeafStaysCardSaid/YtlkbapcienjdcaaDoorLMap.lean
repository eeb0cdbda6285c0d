/- The leaf layer: maps from signs to numbers, whose contents are told plainly. -/
import Derived.Test.YtlkbapcienjdcaaDoorGText
import Derived.Maps.OwnSet
import Derived.Maps.AppendAt
import Derived.StringKeys
namespace Go.Proofs.YtlkbapcienjdcaaDoor
open Go.RowKit
theorem zero_num (w : World) : (zeroValue 3).run Tryd.prog w = .ok (.int .i64 0) w := by kernel_rfl
/-- A number that an int can be. -/
def I64 (x : Int) : Prop := -9223372036854775808 ≤ x ∧ x ≤ 9223372036854775807
theorem I64.wf {x : Int} (h : I64 x) : (Lit.int .i64 x).wf = true := by
  have h1 : IntKind.i64.min = -9223372036854775808 := by decide
  have h2 : IntKind.i64.max = 9223372036854775807 := by decide
  unfold I64 at h
  simp [Lit.wf, h1, h2]
  omega
def StrM (w : World) (b n : Nat) (g : List UInt8 → Option Int) : Prop := ∃ D : DataW Unit, w.ownsMap Tryd.prog 9 (plainElem Tryd.prog 3) b n D ∧ ∀ k : List UInt8, Maps.has D (.string k) = (g k).isSome ∧ ∀ x, g k = some x → D.atKey (.string k) (.lit (.int .i64 0)) = .lit (.int .i64 x)
def putS (g : List UInt8 → Option Int) (k : List UInt8) (x : Int) : List UInt8 → Option Int := fun j => if j = k then some x else g j
theorem key_str (k : List UInt8) (hk : k.length ≤ maxLen) : keyOf Tryd.prog 9 (.string ⟨k.toArray⟩) = some (.string k) := WideMaps.keyOf_string_mk Tryd.underlying9 (s := ⟨k.toArray⟩) (by show k.toArray.size ≤ maxLen; simpa using hk)
section
variable {w w1 : World} {b n : Nat} {g : List UInt8 → Option Int}
theorem slit_ne {k j : List UInt8} (h : k ≠ j) : (Lit.string k) ≠ .string j := fun e => h (by injection e)
theorem strM_new (w : World) : StrM (w.alloc (.map #[] 0)) w.heap.size 0 fun _ => none :=
  ⟨_, World.ownsMap_made w _ _ _, fun _ => ⟨rfl, fun x h => by cases h⟩⟩
theorem StrM.kept {row : Option Nat} (h : StrM w b n g) (hg : w.grownBy w1 row) (hne : some b ≠ row) : StrM w1 b n g := by
  obtain ⟨D, h, k⟩ := h; exact ⟨D, h.kept hg hne, k⟩
theorem StrM.below {B : Nat} (h : StrM w b n g) (hb : Below B w w1) (hB : b < B) : StrM w1 b n g := by
  obtain ⟨D, ⟨es, clock, hh, r⟩, k⟩ := h
  exact ⟨D, ⟨es, clock, (hb.block b hB).trans hh, r⟩, k⟩
theorem StrM.lt (h : StrM w b n g) : b < w.heap.size := by obtain ⟨D, h, k⟩ := h; exact h.lt
theorem StrM.look (h : StrM w b n g) (k : List UInt8) (hk : k.length ≤ maxLen) : ∃ c : Int, (Instr.lookup 49 (.map (some b)) (.string ⟨k.toArray⟩) true).run Tryd.prog w = .ok (.tuple #[.int .i64 c, .bool (g k).isSome]) w ∧ ∀ x, g k = some x → c = x := by
  obtain ⟨D, h, hD⟩ := h
  obtain ⟨v, ps, hrun, hv⟩ := h.look_ok (Maps.string_keyed Tryd.underlying9) Tryd.underlying49 (zero_num w) (plainElem_int Tryd.underlying3 (by decide)) (key_str k hk)
  obtain ⟨c, rfl, hc, -⟩ := plainElem_int_inv Tryd.underlying3 hv
  rw [(hD k).1] at hrun
  refine ⟨c, hrun, fun x hx => ?_⟩
  have h1 := (hD k).2 x hx
  simp only [Prod.mk.injEq] at hc
  rw [h1] at hc
  have := hc.1
  simpa using this.symm
theorem StrM.put (h : StrM w b n g) (k : List UInt8) (x : Int) (hk : k.length ≤ maxLen) (hx : I64 x) (hn : n < maxLen) : ∃ w', (Instr.mapUpdate 49 (.map (some b)) (.string ⟨k.toArray⟩) (.int .i64 x)).run Tryd.prog w = .ok () w' ∧ StrM w' b (n + 1) (putS g k x) ∧ w.grownBy w' (some b) := by
  obtain ⟨D, h, hD⟩ := h
  obtain ⟨w', h1, h2, h3⟩ := h.update (Maps.string_keyed Tryd.underlying9) Tryd.underlying49 hn (key_str k hk) (plainElem_int Tryd.underlying3 hx.wf)
  refine ⟨w', h1, ⟨_, h2, fun j => ?_⟩, h3⟩
  by_cases hj : j = k
  · subst hj
    unfold putS
    rw [if_pos rfl]
    exact ⟨Maps.has_put_same h.isMap (show WideAt.IsKeyLit (.string _) from trivial) _, fun y hy => by cases hy; exact Maps.atKey_put_same h.isMap (show WideAt.IsKeyLit (.string _) from trivial) _ _⟩
  · unfold putS
    rw [if_neg hj]
    exact ⟨(Maps.has_put_other (slit_ne hj) _).trans (hD j).1, fun y hy => (Maps.atKey_put_other (slit_ne hj) _ _).trans ((hD j).2 y hy)⟩
end
end Go.Proofs.YtlkbapcienjdcaaDoor
