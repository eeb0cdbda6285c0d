/- What all laws of the sweep layer begin with: the script's arena, and the document's. -/
import Derived.Test.YtlddelnbjihhgaaDoorSAlive
namespace Go.Proofs.YtlddelnbjihhgaaDoor
open Go.RowKit

/-- The program's arena, above what there was, and the document's row. -/
def Sw (w : World) (p : Nat) (A : Option Addr) (c : Nat) (L : List Nd) (W : World) : Prop := Liv w p 60 L W ∧ RefA W A c L
section
variable {w W W1 : World} {p c m : Nat} {A : Option Addr} {L : List Nd} {f : Nat → Nd}
theorem Sw.below (h : Sw w p A c L W) (hb : Below W.heap.size W W1) : Sw w p A c L W1 := ⟨h.1.below hb, h.2.below hb⟩
theorem Sw.low (h : Sw w p A c L W) : Below w.heap.size w W := h.1.low
theorem Sw.right (h : Sw w p A c L W) : RightL L := h.1.right
theorem build_sw {A0 : Option Addr} {c0 : Nat} (hm : m ≤ 40) (hO : Ops w A0 m f) : Calls Tryd.prog 25 #[.slice A0 m c0] w fun e w' => ∃ p A c, e = .returned (.tuple #[.pointer (some ⟨p, 0, none⟩), .agg #[.int .i64 60, .slice A (scr 60 [] f m).length c], .bool true]) ∧ Sw w p A c (scr 60 [] f m) w' :=
  (build_any hm w hO).mono fun _ _ ⟨p, _, A, c, h1, h2⟩ => ⟨p, A, c, h1, h2.liv, h2.ref⟩
theorem alive_low {w W : World} (hb : Below w.heap.size w W) : Calls Tryd.prog 26 #[] W fun e w' => e = .returned (.bool true) ∧ Below w.heap.size w w' :=
  (alive_any W).mono fun _ _ ⟨h1, h2⟩ => ⟨h1, hb.trans (h2.mono hb.size)⟩
theorem alive_sw (h : Sw w p A c L W) : Calls Tryd.prog 26 #[] W fun e w' => e = .returned (.bool true) ∧ Sw w p A c L w' ∧ Below W.heap.size W w' :=
  (alive_any W).mono fun _ _ ⟨h1, h2⟩ => ⟨h1, h.below h2, h2⟩
theorem sw_len (h : Sw w p A c L W) {N : Nat} (hN : L.length = N) : Calls Tryd.prog 67 #[.pointer (some ⟨p, 0, none⟩)] W (RetW (.int .i64 (N : Int)) W) := by
  obtain ⟨own, hA, -⟩ := h.1
  rw [← hN]
  exact arena_len hA
theorem scr_few (f : Nat → Nd) {m : Nat} (hm : m ≤ 40) : (scr 60 [] f m).length ≤ 40 := by
  have := scr_len 60 [] f m
  simp at this
  omega
end
end Go.Proofs.YtlddelnbjihhgaaDoor
