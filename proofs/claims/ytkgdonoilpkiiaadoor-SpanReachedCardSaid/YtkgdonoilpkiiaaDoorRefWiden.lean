/- The contracts of the document's Narrow and Widen. -/
import Derived.Test.YtkgdonoilpkiiaaDoorRefSteps
import Derived.Deep.QuietTactic
import Derived.BigQuiet
namespace Go.Proofs.YtkgdonoilpkiiaaDoor
open Go.RowKit
attribute [local go_sem ↓] Go.wp_at_zero Go.wp_at_succ eq24 eq23 neq24 eqg24 eqg23

theorem Boxes.rdrewN {w wx : World} {a b c d x y : Int} (h : Boxes w wx a b c d x y) (n : Nat) : Boxes w (wx.drewN n) a b c d x y := ⟨h.1, h.2.1, h.2.2.1, below_drewN h.2.2.2 n⟩

/-- Four blocks: both spans, the result's, and the one that is worked on. -/
def Quart (w wx : World) (g : Nat) (a b c d p q : Int) : Prop := Boxes w wx a b c d 0 0 ∧ Box wx g p q ∧ w.heap.size + 1 + 1 < g
theorem Quart.below {w wx w' : World} {g : Nat} {a b c d p q : Int} (h : Quart w wx g a b c d p q) (hb : Below wx.heap.size wx w') : Quart w w' g a b c d p q := ⟨h.1.below hb, h.2.1.below hb, h.2.2⟩
theorem Quart.drewN {w wx : World} {g : Nat} {a b c d p q : Int} (h : Quart w wx g a b c d p q) (n : Nat) : Quart w (wx.drewN n) g a b c d p q := ⟨h.1.rdrewN n, h.2.1, h.2.2⟩
theorem quart_new {w wx : World} {a b c d p q : Int} (h : Boxes w wx a b c d 0 0) (t : Nat) : Quart w (wx.alloc (.cells #[.int .i64 p, .int .i64 q] t)) wx.heap.size a b c d p q := by
  refine ⟨h.below ((Below.refl _ _).alloc (Nat.le_refl _) _), ?_, h.2.2.1.1⟩
  refine ⟨?_, ?_, ?_, ?_, ?_⟩
  all_goals go_simp
theorem Quart.low {w wx : World} {g : Nat} {a b c d p q : Int} (h : Quart w wx g a b c d p q) (v : Int) : Quart w (wx.setCell ⟨g, 0, none⟩ (.int .i64 v)) g a b c d v q := by
  obtain ⟨⟨⟨z0, p0, p1, f0, f1⟩, ⟨z1, q0, q1, g0, g1⟩, ⟨z2, r0, r1, e0, e1⟩, hb⟩, ⟨z3, s0, s1, t0, t1⟩, hg⟩ := h
  have n0 : w.heap.size ≠ g := by omega
  have n1 : w.heap.size + 1 ≠ g := by omega
  have n2 : w.heap.size + 1 + 1 ≠ g := by omega
  have hg' := hg
  refine ⟨⟨⟨?_, ?_, ?_, ?_, ?_⟩, ⟨?_, ?_, ?_, ?_, ?_⟩, ⟨?_, ?_, ?_, ?_, ?_⟩, hb.setCell (by simp; omega) _⟩, ⟨?_, ?_, ?_, ?_, ?_⟩, hg'⟩
  all_goals go_simp
theorem Quart.high {w wx : World} {g : Nat} {a b c d p q : Int} (h : Quart w wx g a b c d p q) (v : Int) : Quart w (wx.setCell ⟨g, 1, none⟩ (.int .i64 v)) g a b c d p v := by
  obtain ⟨⟨⟨z0, p0, p1, f0, f1⟩, ⟨z1, q0, q1, g0, g1⟩, ⟨z2, r0, r1, e0, e1⟩, hb⟩, ⟨z3, s0, s1, t0, t1⟩, hg⟩ := h
  have n0 : w.heap.size ≠ g := by omega
  have n1 : w.heap.size + 1 ≠ g := by omega
  have n2 : w.heap.size + 1 + 1 ≠ g := by omega
  have hg' := hg
  refine ⟨⟨⟨?_, ?_, ?_, ?_, ?_⟩, ⟨?_, ?_, ?_, ?_, ?_⟩, ⟨?_, ?_, ?_, ?_, ?_⟩, hb.setCell (by simp; omega) _⟩, ⟨?_, ?_, ?_, ?_, ?_⟩, hg'⟩
  all_goals go_simp

/-- The same, whatever the fourth block holds. -/
def QuartE (w wx : World) (g : Nat) (a b c d : Int) : Prop := ∃ p q, Quart w wx g a b c d p q
theorem QuartE.below {w W w5 : World} {g : Nat} {a b c d : Int} (hb : Below W.heap.size W w5) (h : QuartE w W g a b c d) : QuartE w w5 g a b c d := by
  obtain ⟨p, q, x⟩ := h
  exact ⟨p, q, x.below hb⟩
theorem QuartE.low {w W : World} {g : Nat} {a b c d : Int} (h : QuartE w W g a b c d) (v : Int) : QuartE w (W.setCell ⟨g, 0, none⟩ (.int .i64 v)) g a b c d := by
  obtain ⟨p, q, x⟩ := h
  exact ⟨_, _, x.low v⟩
theorem QuartE.high {w W : World} {g : Nat} {a b c d : Int} (h : QuartE w W g a b c d) (v : Int) : QuartE w (W.setCell ⟨g, 1, none⟩ (.int .i64 v)) g a b c d := by
  obtain ⟨p, q, x⟩ := h
  exact ⟨_, _, x.high v⟩
theorem QuartE.drewN {w W : World} {g : Nat} {a b c d : Int} (h : QuartE w W g a b c d) (n : Nat) : QuartE w (W.drewN n) g a b c d := by
  obtain ⟨p, q, x⟩ := h
  exact ⟨_, _, x.drewN n⟩
theorem Quart.some {w W : World} {g : Nat} {a b c d p q : Int} (h : Quart w W g a b c d p q) : QuartE w W g a b c d := ⟨p, q, h⟩
theorem qtop (w : World) (n : Nat) : Calls Tryd.prog 33 #[] (w.drewN n) fun e w'' => e = .returned (.int .i64 1152921504606846976) ∧ ∃ m, w'' = w.drewN m := (top_any _).mono fun _ _ h => ⟨h.1, n, h.2.symm⟩
theorem qtop2 (w : World) (k n : Nat) : Calls Tryd.prog 33 #[] (w.drewN (k + n)) fun e w'' => e = .returned (.int .i64 1152921504606846976) ∧ ∃ m, w'' = w.drewN (k + m) := (top_any _).mono fun _ _ h => ⟨h.1, n, h.2.symm⟩

/-- What the loop over the steps has gathered. -/
def Turned (w2 : World) (f : Nat → Int) (m : Nat) (v i : Value) (wr : World) : Prop :=
  ∃ k : Nat, k ≤ m ∧ i = .int .i64 k ∧ wr.ownsRow w2.heap.size 3 1 v (negs f k).length ((negs f k).map (Value.int .i64)) ∧ Below w2.heap.size w2 wr
theorem news1 (w : World) (p : Int) : ∀ j u, ([.int .i64 p] : List Value)[j]? = some u → (w.alloc (.cells #[.int .i64 p] 3)).cell? ((⟨w.heap.size, 0, none⟩ : Addr).add j) = some u := by
  intro j u hj
  match j, hj with
  | 0, hj => simp at hj; subst hj; go_simp
  | j + 1, hj => simp at hj
theorem one1 (p : Int) : ∀ u ∈ ([.int .i64 p] : List Value), u.oneCell' = true := by
  intro u hu
  simp at hu
  subst hu; rfl
theorem turned_more {w2 wr w4 : World} {f : Nat → Int} {k : Nat} {v v' : Value} {o : Obj} (hb : inB (f k) = true) (hnx : Below w2.heap.size w2 wr) (hown : wr.ownsRow w2.heap.size 3 1 v (negs f k).length ((negs f k).map (Value.int .i64)))
    (hown' : w4.ownsRow w2.heap.size 3 1 v' ((negs f k).length + 1) ((negs f k).map (Value.int .i64) ++ [.int .i64 (-(f k))])) (hgrow : (wr.alloc o).grownBy w4 v.ownBlock) :
    w4.ownsRow w2.heap.size 3 1 v' (negs f (k + 1)).length ((negs f (k + 1)).map (Value.int .i64)) ∧ Below w2.heap.size w2 w4 := by
  refine ⟨?_, (hnx.alloc hnx.size o).grown hgrow (hnx.alloc hnx.size o).size (fun g hg => (hown.lt g hg).1)⟩
  rw [negs_yes hb, List.length_append, List.map_append]
  exact hown'
theorem join_self (a b : Int) : joinL a b a b = tkL a b ∧ joinH a b a b = tkH a b := by
  unfold joinL joinH
  cases h : noneS a b
  · simp only [Bool.false_eq_true, if_false]; omega
  · simp only [if_true, and_self]
/-- What is not in a, has something. -/
theorem some_of_not {a b c d : Int} (h : leqS c d a b = false) : noneS c d = false := by
  cases x : noneS c d
  · rfl
  · have := (leqS_iff c d a b).2 (Or.inl (noneS_yes x)); rw [h] at this; cases this

end Go.Proofs.YtkgdonoilpkiiaaDoor
