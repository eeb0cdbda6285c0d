/- The contract of 'alive', which all statements of the layer ask. -/
import Derived.Test.YtdgjbbcalffbcaaBNew
namespace Go.Proofs.Ytdgjbbcalffbcaa
open Go.RowKit
attribute [local go_sem ↓] Go.wp_at_zero Go.wp_at_succ

/-- A manager lives, above what there was. -/
def Liv (w : World) (m lim : Nat) (L : List Nd) (W : World) : Prop := ∃ own : Nat → Prop, Mg W own m lim L ∧ (∀ i, own i → w.heap.size ≤ i) ∧ Below w.heap.size w W
section
variable {w W W1 : World} {own own1 : Nat → Prop} {m lim : Nat} {L L1 : List Nd}
theorem liv_went (hw : ∀ i, own i → w.heap.size ≤ i) (hb : Below w.heap.size w W) (q : Went own W own1 W1) (h1 : Mg W1 own1 m lim L1) : Liv w m lim L1 W1 :=
  ⟨own1, h1, fun i hi => (q.2 i hi).elim (hw i) (fun g => Nat.le_trans hb.size g), hb.trans (q.1.below hb.size hw)⟩
theorem Liv.below (h : Liv w m lim L W) (hb : Below W.heap.size W W1) : Liv w m lim L W1 := by
  obtain ⟨own, h, hw, hbw⟩ := h
  exact ⟨own, h.below hb, hw, hbw.trans (hb.mono hbw.size)⟩
theorem Liv.low (h : Liv w m lim L W) : Below w.heap.size w W := by
  obtain ⟨own, h, hw, hbw⟩ := h
  exact hbw
theorem Liv.right (h : Liv w m lim L W) : RightL L := by
  obtain ⟨own, h, hw, hbw⟩ := h
  exact h.right
theorem Liv.bools (h : Liv w m lim L W) : AllB L := by
  obtain ⟨own, h, hw, hbw⟩ := h
  exact h.bools
theorem Liv.fits (h : Liv w m lim L W) : L.length ≤ lim := by
  obtain ⟨own, h, hw, hbw⟩ := h
  exact h.fits
theorem Grow2.len {u : Int} (h : Grow2 u L L1) (hR : RightL L) (hR1 : RightL L1) : L1.length ≤ L.length + 4095 := by
  have := h.few 12
  rw [lowN_all (allV_12 hR), lowN_all (allV_12 hR1)] at this
  exact this
/-- A call that may be, where there is room. -/
def RetSmall (F : Nat → Bool) (w : World) (m lim : Nat) (L : List Nd) (e : Ending) (w' : World) : Prop :=
  ∃ (L' : List Nd) (x : Int), e = .returned (.tuple #[.int .i64 x, .nilIface]) ∧ Liv w m lim L' w' ∧ (∃ M, L' = L ++ M) ∧ L'.length ≤ L.length + 4095 ∧ Tells L' F x
theorem liv_small {f : FuncId} {args : Array Value} {F : Nat → Bool} {u : Int} (h : Liv w m lim L W) (hl : L.length + 4095 < lim) (H : ∀ own, Mg W own m lim L → Calls Try.prog f args W (RetPub F u own m lim L W)) : Calls Try.prog f args W (RetSmall F w m lim L) := by
  obtain ⟨own, hM, hw, hb⟩ := h
  refine (H own hM).mono ?_
  rintro e w' ⟨own', L', h', q', g', x, ev, rfl, hev⟩
  have hlen := g'.len hM.right h'.right
  rcases hev with ⟨rfl, ht⟩ | ⟨-, b, a, -, -, hll⟩
  · exact ⟨L', x, rfl, liv_went hw hb q' h', g'.more, hlen, ht⟩
  · omega
def RetArgL (w : World) (m lim : Nat) (L : List Nd) (e : Ending) (w' : World) : Prop := e = .returned (.tuple #[.int .i64 0, .iface 54 (.int .i64 1)]) ∧ Liv w m lim L w'
theorem liv_arg {f : FuncId} {args : Array Value} (h : Liv w m lim L W) (H : ∀ own, Mg W own m lim L → Calls Try.prog f args W (RetArg own m lim L W)) : Calls Try.prog f args W (RetArgL w m lim L) := by
  obtain ⟨own, hM, hw, hb⟩ := h
  refine (H own hM).mono ?_
  rintro e w' ⟨own', rfl, h', q'⟩
  exact ⟨rfl, liv_went hw hb q' h'⟩
theorem liv_is (h : Liv w m lim L W) (r : Int) : Calls Try.prog 27 #[.pointer (some ⟨m, 0, none⟩), .int .i64 r] W fun e w' => e = .returned (.bool (decide (InB L.length r))) ∧ Liv w m lim L w' := by
  obtain ⟨own, hM, hw, hb⟩ := h
  refine (isB_any hM r).mono ?_
  rintro e w' ⟨own', rfl, h', q'⟩
  exact ⟨rfl, liv_went hw hb q' h'⟩
theorem liv_support (h : Liv w m lim L W) (r : Int) : Calls Try.prog 18 #[.pointer (some ⟨m, 0, none⟩), .int .i64 r] W fun e w' => e = .returned (.int .u64 (suppP L r : Nat)) ∧ Liv w m lim L w' := by
  obtain ⟨own, hM, hw, hb⟩ := h
  refine (support_any hM r).mono ?_
  rintro e w' ⟨own', rfl, h', q'⟩
  exact ⟨rfl, liv_went hw hb q' h'⟩
theorem liv_eval (h : Liv w m lim L W) (r : Int) {b : Nat} (hb : b < 18446744073709551616) : Calls Try.prog 17 #[.pointer (some ⟨m, 0, none⟩), .int .i64 r, .int .u64 (b : Int)] W fun e w' => e = .returned (.bool (fn L r b)) ∧ Liv w m lim L w' := by
  have h' := h
  obtain ⟨own, hM, hw, hbw⟩ := h
  refine (eval_any hM r hb).mono ?_
  rintro e w' ⟨rfl, hb'⟩
  exact ⟨rfl, h'.below hb'⟩
theorem liv_arena (h : Liv w m lim L W) : ∃ p, Calls Try.prog 15 #[.pointer (some ⟨m, 0, none⟩)] W (RetW (.pointer (some ⟨p, 0, none⟩)) W) := by
  obtain ⟨own, hM, hw, hb⟩ := h
  obtain ⟨p, h, -⟩ := arenaA_any hM
  exact ⟨p, h⟩
theorem New_liv (n c : Int) (h : -9223372036854775808 ≤ n ∧ n ≤ 9223372036854775807) (w : World) : Calls Try.prog 10 #[.int .i64 n, .int .i64 c] w fun e w' => ∃ m, e = .returned (.pointer (some ⟨m, 0, none⟩)) ∧ Liv w m n.toNat [] w' := by
  refine (New_any n c h w).mono ?_
  rintro e w' ⟨m, own, rfl, hM, hb, hw, -⟩
  exact ⟨m, rfl, own, hM, hw, hb⟩
end
theorem m_nil (b : Nat) (w : World) : (binOp .eql 23 (.pointer (some ⟨b, 0, none⟩)) (.pointer none)).run Try.prog w = .ok (.bool false) w := by kernel_rfl
theorem m_nnil (b : Nat) (w : World) : (binOp .neq 23 (.pointer (some ⟨b, 0, none⟩)) (.pointer none)).run Try.prog w = .ok (.bool true) w := by kernel_rfl
theorem a_nil (b : Nat) (w : World) : (binOp .eql 37 (.pointer (some ⟨b, 0, none⟩)) (.pointer none)).run Try.prog w = .ok (.bool false) w := by kernel_rfl
/-- What hangs on a variable. -/
theorem supp_tells {L : List Nd} (hR : RightL L) (hA : AllB L) {F : Nat → Bool} {r : Int} (h : Tells L F r) (v : Nat) : (suppP L r).testBit v = true ↔ ∃ b, b < 4096 ∧ F (setBit b v false) ≠ F (setBit b v true) := by
  have hs := supp_flip hR hA v r
  constructor
  · intro ht
    obtain ⟨b, hb, hd⟩ := hs.1 h.1 ht
    exact ⟨b, hb, by rw [← h.2, ← h.2]; exact hd⟩
  · rintro ⟨b, hb, hd⟩
    cases ht : (suppP L r).testBit v
    · exact absurd (by rw [← h.2, ← h.2, hs.2 ht, hs.2 ht]) hd
    · rfl
/-- A full arena of no room. -/
theorem small_full {w W : World} {m : Nat} (h : Liv w m 0 [] W) : Calls Try.prog 28 #[.pointer (some ⟨m, 0, none⟩), .int .i64 3] W fun e w' => ∃ (b : Nat), e = .returned (.tuple #[.int .i64 0, .iface 118 (.pointer (some ⟨b, 0, none⟩))]) ∧ w'.cell? ⟨b, 2, none⟩ = some (.iface 54 (.int .i64 50)) ∧ Liv w m 0 [] w' := by
  obtain ⟨own, hM, hw, hb⟩ := h
  refine (Var_good hM (by omega) (v := 3) (by omega)).mono ?_
  rintro e w' ⟨own', L', h', q', g', x, ev, rfl, hev⟩
  have hL : L' = [] := List.length_eq_zero_iff.1 (by have := h'.fits; omega)
  subst hL
  rcases hev with ⟨rfl, ht⟩ | ⟨rfl, b, a, rfl, hk, -⟩
  · exfalso
    have e0 := ht.2 0
    have e8 := ht.2 8
    have : x = -1 ∨ x = -2 := by have := ht.1; unfold InB at this; simp at this; omega
    rcases this with rfl | rfl
    · rw [fn_false] at e8; revert e8; decide
    · rw [fn_true] at e0; revert e0; decide
  · exact ⟨b, rfl, hk.cell 2, liv_went hw hb q' h'⟩
end Go.Proofs.Ytdgjbbcalffbcaa
