/- The contract of start: at which place the search for a node begins. -/
import Derived.Test.YtlddelnbjihhgaaDoorNSmall
import Derived.Laws.Bits64
namespace Go.Proofs.YtlddelnbjihhgaaDoor
open Go.RowKit
attribute [local go_sem ↓] Go.wp_at_zero Go.wp_at_succ

/-- One number more is mixed in. -/
noncomputable def mix (s x : Int) : Int := bits BinOp.xor IntKind.u64 (IntKind.u64.wrap (bits BinOp.xor IntKind.u64 s (IntKind.u64.wrap x) * 11400714819323198485)) (IntKind.u64.wrap (bits BinOp.xor IntKind.u64 s (IntKind.u64.wrap x) * 11400714819323198485) / 4294967296)
noncomputable def hashP (x : Nd) : Int := mix (mix (mix 0 x.1) x.2.1) x.2.2
noncomputable def stP (P : Nat) (x : Nd) : Nat := ((hashP x).tmod P).toNat
theorem mix_nonneg (s x : Int) : 0 ≤ mix s x := by
  unfold mix bits
  rw [IntKind.wrap_u64]
  omega
theorem stP_is (P : Nat) (x : Nd) (hP : 0 < P) : ((stP P x : Nat) : Int) = (hashP x).tmod P ∧ stP P x < P := by
  have h0 : 0 ≤ hashP x := mix_nonneg _ _
  have h1 : 0 ≤ (hashP x).tmod P := Int.tmod_nonneg _ h0
  have h2 : (hashP x).tmod P < P := Int.tmod_lt_of_pos _ (by omega)
  unfold stP
  omega
theorem start_any (v l h : Int) (P : Nat) (hP : 0 < P) (hP2 : P ≤ 20000) (W : World) :
    Calls Tryd.prog 123 #[.agg #[.int .i64 v, .int .i64 l, .int .i64 h], .int .i64 P] W fun e w' => e = .returned (.int .i64 (stP P (v, l, h) : Nat)) ∧ Below W.heap.size W w' := by
  have i0 : ∀ w, (Instr.index 180 (.agg #[.int .i64 v, .int .i64 l, .int .i64 h]) (.int .i64 0)).run Tryd.prog w = .ok (.int .i64 v) w := fun _ => by kernel_rfl
  have i1 : ∀ w, (Instr.index 180 (.agg #[.int .i64 v, .int .i64 l, .int .i64 h]) (.int .i64 1)).run Tryd.prog w = .ok (.int .i64 l) w := fun _ => by kernel_rfl
  have i2 : ∀ w, (Instr.index 180 (.agg #[.int .i64 v, .int .i64 l, .int .i64 h]) (.int .i64 2)).run Tryd.prog w = .ok (.int .i64 h) w := fun _ => by kernel_rfl
  have HS : Hid (wrap64 ((hashP (v, l, h)).tmod (P : Int)) = (stP P (v, l, h) : Nat)) := by
    obtain ⟨e, hlt⟩ := stP_is P (v, l, h) hP
    refine Lib.hid ?_
    rw [← e]
    have h9 : -9223372036854775808 ≤ (stP P (v, l, h) : Int) ∧ (stP P (v, l, h) : Int) ≤ 9223372036854775807 := by omega
    unfold wrap64
    omega
  go_enter Tryd.func123, Tryd.ntmps123
  go_wp2_with fail
  refine wp_loop_rounds 4 ?_
  rw [rounds_succ]
  go_wp2_with fail
  rw [rounds_succ]
  go_wp2_with fail
  rw [rounds_succ]
  go_wp2_with fail
  rw [rounds_succ]
  go_wp2_with fail
  go_ret
  refine ⟨?_, (Below.refl _ _).alloc (Nat.le_refl _) _⟩
  rw [← HS.out]
  rfl
end Go.Proofs.YtlddelnbjihhgaaDoor
