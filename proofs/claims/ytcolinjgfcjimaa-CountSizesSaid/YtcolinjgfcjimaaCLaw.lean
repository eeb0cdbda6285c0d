/- What the laws share: the build, and the calls, over an arena that came of a script. -/
import Derived.Test.YtcolinjgfcjimaaCLawMath
namespace Go.Proofs.Ytcolinjgfcjimaa
open Go.RowKit
attribute [local go_sem ↓] Go.wp_at_zero Go.wp_at_succ

/-- An arena that lives above what there was. -/
def Lv (w : World) (p : Nat) (L : List Nd) (W : World) : Prop := ∃ own : Nat → Prop, Arena W own p 60 L ∧ Below w.heap.size w W
section
variable {w W W1 : World} {p : Nat} {L : List Nd}
theorem Lv.below (h : Lv w p L W) (hb : Below W.heap.size W W1) : Lv w p L W1 := by
  obtain ⟨own, h1, h2⟩ := h
  exact ⟨own, h1.below hb, h2.trans (hb.mono h2.size)⟩
theorem Lv.low (h : Lv w p L W) : Below w.heap.size w W := by
  obtain ⟨own, h1, h2⟩ := h
  exact h2
theorem Lv.right (h : Lv w p L W) : RightL L := by
  obtain ⟨own, h1, h2⟩ := h
  exact h1.right
theorem build_lv {A : Option Addr} {m c : Nat} {f : Nat → Nd} (hw : Below w.heap.size w W) (hm : m ≤ 60) (hO : Ops w A m f) : Calls Try.prog 9 #[.slice A m c] W fun e w' => ∃ p A' c', e = .returned (.tuple #[.pointer (some ⟨p, 0, none⟩), .agg #[.int .i64 60, .slice A' (scr 60 [] f m).length c'], .bool true]) ∧ Lv w p (scr 60 [] f m) w' :=
  (build_any hm W (hO.below hw)).mono fun _ _ ⟨p, rb, A', c', he, hB⟩ => by
    obtain ⟨own, h1, h2, h3, -⟩ := hB
    exact ⟨p, A', c', he, own, h1, hw.trans (h3.mono hw.size)⟩
theorem build_no {A : Option Addr} {m c : Nat} (hw : Below w.heap.size w W) (hm : 60 < m) : Calls Try.prog 9 #[.slice A m c] W fun e w' => e = .returned (.tuple #[.pointer none, .agg #[.int .i64 60, .slice none 0 0], .bool false]) ∧ Below w.heap.size w w' :=
  (build_far hm W).mono fun _ _ ⟨he, hB⟩ => ⟨he, hw.trans (hB.mono hw.size)⟩
theorem alive_in (hw : Below w.heap.size w W) : Calls Try.prog 11 #[] W fun e w' => e = .returned (.bool true) ∧ Below w.heap.size w w' :=
  (alive_any W).mono fun _ _ ⟨he, hB⟩ => ⟨he, hw.trans (hB.mono hw.size)⟩
theorem lv_alive (h : Lv w p L W) : Calls Try.prog 11 #[] W fun e w' => e = .returned (.bool true) ∧ Lv w p L w' ∧ Below W.heap.size W w' :=
  (alive_any W).mono fun _ _ ⟨he, hB⟩ => ⟨he, h.below hB, hB⟩
theorem lv_has {f : Int} {x : Bool} (h : Lv w p L W) (hx : hasP L.length f = x) : Calls Try.prog 24 #[.pointer (some ⟨p, 0, none⟩), .int .i64 f] W fun e w' => e = .returned (.bool x) ∧ w' = W := by
  obtain ⟨own, h1, h2⟩ := h
  rw [← hx]
  exact (arena_has (r := f) h1).mono fun _ _ h => ⟨h.1, h.2.symm⟩
theorem lv_walk {f y : Int} {b : Nat} (h : Lv w p L W) (hb : b < 18446744073709551616) (hy : endP L b f = y) : Calls Try.prog 26 #[.pointer (some ⟨p, 0, none⟩), .int .i64 f, .int .u64 (b : Int)] W fun e w' => e = .returned (.int .i64 y) ∧ Lv w p L w' := by
  have ⟨own, h1, h2⟩ := h
  rw [← hy]
  exact (arena_walk h1 hb).mono fun _ _ ⟨he, hb⟩ => ⟨he, h.below hb⟩
/-- A row of cubes. -/
def CRow (W : World) (A : Option Addr) (C : List Cb) : Prop := ∀ i c, C[i]? = some c → ∃ g, A = some ⟨g, 0, none⟩ ∧ g < W.heap.size ∧ W.cell? ⟨g, i * 2, none⟩ = some (.int .u64 (c.1 : Int)) ∧ W.cell? ⟨g, i * 2 + 1, none⟩ = some (.int .u64 (c.2 : Int))
theorem CRow.below {A : Option Addr} {C : List Cb} (h : CRow W A C) (hb : Below W.heap.size W W1) : CRow W1 A C := fun i c hc => by
  obtain ⟨g, h1, h2, h3, h4⟩ := h i c hc
  exact ⟨g, h1, Nat.lt_of_lt_of_le h2 hb.size, (hb.cell (p := ⟨g, _, none⟩) h2).trans h3, (hb.cell (p := ⟨g, _, none⟩) h2).trans h4⟩
theorem cubeCells_at : ∀ (C : List Cb) (i : Nat) (c : Cb), C[i]? = some c → (cubeCells C)[i * 2]? = some (.int .u64 (c.1 : Int)) ∧ (cubeCells C)[i * 2 + 1]? = some (.int .u64 (c.2 : Int))
  | x :: C, 0, c, h => by
    cases h
    exact ⟨rfl, rfl⟩
  | x :: C, i + 1, c, h => by
    have := cubeCells_at C i c h
    rw [show (i + 1) * 2 = i * 2 + 2 by omega]
    exact this
theorem crow_of {base : Nat} {v : Value} {C : List Cb} (h : W.ownsRow base 51 2 v C.length (cubeCells C)) : ∃ A c, v = .slice A C.length c ∧ CRow W A C := by
  match hC : C, h with
  | [], h =>
    rcases h.2 with ⟨h1, -⟩ | ⟨g, cap, cur, h1, -⟩
    · exact ⟨_, _, h1, fun i c hc => by simp at hc⟩
    · exact ⟨_, _, h1, fun i c hc => by simp at hc⟩
  | x :: C', h =>
    obtain ⟨g, c, rfl⟩ := row_form (n := C'.length) h
    refine ⟨_, _, rfl, fun i c hc => ?_⟩
    have hi := (List.getElem?_eq_some_iff.1 hc).1
    obtain ⟨k1, k2⟩ := cubeCells_at _ i c hc
    simp only [List.length_cons] at hi
    refine ⟨g, rfl, (World.ownsRow.lt h g rfl).2, ?_, ?_⟩
    · exact (h.cellAt (i * 2) (by omega)).trans k1
    · exact (h.cellAt (i * 2 + 1) (by omega)).trans k2
def cubesP (L : List Nd) (val f : Int) : List Cb := if hasP L.length f = true then cubesL L val f else []
theorem lv_cubes {f val : Int} {C : List Cb} (h : Lv w p L W) (hC : cubesP L val f = C) : Calls Try.prog 22 #[.pointer (some ⟨p, 0, none⟩), .int .i64 f, .int .i64 val] W fun e w' => ∃ A c, e = .returned (.slice A C.length c) ∧ Lv w p L w' ∧ CRow w' A C := by
  have ⟨own, h1, h2⟩ := h
  subst hC
  unfold cubesP
  by_cases hf : hasP L.length f = true
  · rw [if_pos hf]
    refine (cubes_any h1 hf).mono fun _ _ ⟨v, he, hr, hb⟩ => ?_
    obtain ⟨A, c, rfl, hc⟩ := crow_of hr
    exact ⟨A, c, he, h.below hb, hc⟩
  · rw [if_neg hf]
    have hf' : hasP L.length f = false := by simpa using hf
    exact (cubes_none h1 hf').mono fun _ _ ⟨he, hb⟩ => ⟨none, 0, he, h.below hb, fun i c hc => by simp at hc⟩
end
end Go.Proofs.Ytcolinjgfcjimaa
