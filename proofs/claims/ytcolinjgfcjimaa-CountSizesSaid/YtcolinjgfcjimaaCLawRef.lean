/- What the laws share that ask the document too: the build with the document's arena, in its box. -/
import Derived.Test.YtcolinjgfcjimaaCRefCubes
namespace Go.Proofs.Ytcolinjgfcjimaa
open Go.RowKit
attribute [local go_sem ↓] Go.wp_at_zero Go.wp_at_succ

/-- The program's arena above what there was, and the document's. -/
def Lr (w : World) (p : Nat) (L : List Nd) (A : Option Addr) (c : Nat) (W : World) : Prop := Lv w p L W ∧ RefA W A c L
/-- The box of the document's arena. -/
def Rb (nb : Nat) (A : Option Addr) (n c : Nat) (W : World) : Prop := nb < W.heap.size ∧ W.cell? ⟨nb, 0, none⟩ = some (.int .i64 60) ∧ W.cell? ⟨nb, 1, none⟩ = some (.slice A n c)
/-- Both, and the box. -/
def Lx (w : World) (p : Nat) (L : List Nd) (A : Option Addr) (c nb : Nat) (W : World) : Prop := Lr w p L A c W ∧ Rb nb A L.length c W
section
variable {w W W1 : World} {p c nb : Nat} {A : Option Addr} {L : List Nd}
theorem Lr.below (h : Lr w p L A c W) (hb : Below W.heap.size W W1) : Lr w p L A c W1 := ⟨h.1.below hb, h.2.below hb⟩
theorem Rb.below {n : Nat} (h : Rb nb A n c W) (hb : Below W.heap.size W W1) : Rb nb A n c W1 := ⟨Nat.lt_of_lt_of_le h.1 hb.size, (hb.cell (p := ⟨nb, 0, none⟩) h.1).trans h.2.1, (hb.cell (p := ⟨nb, 1, none⟩) h.1).trans h.2.2⟩
theorem Lx.below (h : Lx w p L A c nb W) (hb : Below W.heap.size W W1) : Lx w p L A c nb W1 := ⟨h.1.below hb, h.2.below hb⟩
theorem Lr.box (h : Lr w p L A c W) : Lx w p L A c W.heap.size (W.alloc (.cells #[.int .i64 60, .slice A L.length c] 27)) := by
  have hk := Blk.new W 27 #[.int .i64 60, .slice A L.length c]
  exact ⟨h.below ((Below.refl _ _).alloc (Nat.le_refl _) _), hk.lt, hk.cell 0, hk.cell 1⟩
theorem Lx.lv (h : Lx w p L A c nb W) : Lv w p L W := h.1.1
theorem Lx.ref (h : Lx w p L A c nb W) : RefA W A c L := h.1.2
theorem build_lr {A : Option Addr} {m c : Nat} {f : Nat → Nd} (hw : Below w.heap.size w W) (hm : m ≤ 60) (hO : Ops w A m f) : Calls Try.prog 9 #[.slice A m c] W fun e w' => ∃ p A' c', e = .returned (.tuple #[.pointer (some ⟨p, 0, none⟩), .agg #[.int .i64 60, .slice A' (scr 60 [] f m).length c'], .bool true]) ∧ Lr w p (scr 60 [] f m) A' c' w' :=
  (build_any hm W (hO.below hw)).mono fun _ _ ⟨p, rb, A', c', he, hB⟩ => by
    have hr := hB.ref
    obtain ⟨own, h1, h2, h3, -⟩ := hB
    exact ⟨p, A', c', he, ⟨own, h1, hw.trans (h3.mono hw.size)⟩, hr⟩
theorem lx_alive (h : Lx w p L A c nb W) : Calls Try.prog 11 #[] W fun e w' => e = .returned (.bool true) ∧ Lx w p L A c nb w' :=
  (alive_any W).mono fun _ _ ⟨he, hB⟩ => ⟨he, h.below hB⟩
theorem crow_any {e : TypeId} {base : Nat} {v : Value} {C : List Cb} (h : W.ownsRow base e 2 v C.length (cubeCells C)) : ∃ A c, v = .slice A C.length c ∧ CRow W A C := by
  match hC : C, h with
  | [], h =>
    rcases h.2 with ⟨h1, -⟩ | ⟨g, cap, cur, h1, -⟩
    · exact ⟨_, _, h1, fun i c hc => by simp at hc⟩
    · exact ⟨_, _, h1, fun i c hc => by simp at hc⟩
  | x :: C', h =>
    obtain ⟨g, c, rfl⟩ := row_form (n := C'.length) h
    refine ⟨_, _, rfl, fun i c hc => ?_⟩
    have hi := (List.getElem?_eq_some_iff.1 hc).1
    obtain ⟨k1, k2⟩ := cubeCells_at _ i c hc
    simp only [List.length_cons] at hi
    refine ⟨g, rfl, (World.ownsRow.lt h g rfl).2, ?_, ?_⟩
    · exact (h.cellAt (i * 2) (by omega)).trans k1
    · exact (h.cellAt (i * 2 + 1) (by omega)).trans k2
theorem lx_cubes {f val : Int} {C : List Cb} (h : Lx w p L A c nb W) (hC : cubesP L val f = C) : Calls Try.prog 22 #[.pointer (some ⟨p, 0, none⟩), .int .i64 f, .int .i64 val] W fun e w' => ∃ A2 c2, e = .returned (.slice A2 C.length c2) ∧ Lx w p L A c nb w' ∧ CRow w' A2 C := by
  have ⟨own, h1, h2⟩ := h.lv
  subst hC
  unfold cubesP
  by_cases hf : hasP L.length f = true
  · rw [if_pos hf]
    refine (cubes_any h1 hf).mono fun _ _ ⟨v, he, hr, hb⟩ => ?_
    obtain ⟨A, c, rfl, hc⟩ := crow_of hr
    exact ⟨A, c, he, h.below hb, hc⟩
  · rw [if_neg hf]
    have hf' : hasP L.length f = false := by simpa using hf
    exact (cubes_none h1 hf').mono fun _ _ ⟨he, hb⟩ => ⟨none, 0, he, h.below hb, fun i c hc => by simp at hc⟩
theorem lx_rcubes {f val : Int} {C : List Cb} (h : Lx w p L A c nb W) (hC : cubesP L val f = C) : Calls Try.prog 23 #[.agg #[.int .i64 60, .slice A L.length c], .int .i64 f, .int .i64 val, .agg #[.int .u64 0, .int .u64 0]] W fun e w' => ∃ A2 c2, e = .returned (.slice A2 C.length c2) ∧ Lx w p L A c nb w' ∧ CRow w' A2 C ∧ Below W.heap.size W w' := by
  subst hC
  refine (rcubes_any (lim := 60) h.ref h.lv.right val f).mono fun _ _ ⟨v, he, hr, hb⟩ => ?_
  obtain ⟨A2, c2, rfl, hc⟩ := crow_any hr
  exact ⟨A2, c2, he, h.below hb, hc, hb⟩
end
end Go.Proofs.Ytcolinjgfcjimaa
