/- errors.Is, asked of a Fault for its own Errno (behind one Unwrap), and of an Errno for itself. -/
import Derived.Test.YtlddelnbjihhgaaDoorNWalk
import Derived.LaidEql
import Derived.Stop.Asserts
import Derived.RowKitTokens
namespace Go.Proofs.YtlddelnbjihhgaaDoor
open Go.RowKit Go.Extern.Stop Go.Stop Go.Extern

theorem e_typeOf (v : Value) (w : World) : (ReflectliteType.typeOf #[.iface 53 v]).run Tryd.prog w = .ok (.iface 149 (.agg #[.pointer (some ⟨5, 53, none⟩)])) w := by kernel_rfl
theorem e_method (f : Addr) (w : World) : (Go.method 321 165 (.pointer (some f)) "Unwrap").run Tryd.prog w = .ok (176, .pointer (some f)) w := by kernel_rfl
theorem ta_unwrap (f : Addr) (w : World) : (Instr.typeAssert (.iface 165 (.pointer (some f))) 50 154 true).run Tryd.prog w = .ok (.tuple #[.iface 165 (.pointer (some f)), .bool true]) w := run_typeAssert_hasB Tryd.underlying154 (by kernel_rfl) _ _ w
theorem ta_is (f : Addr) (w : World) : (Instr.typeAssert (.iface 165 (.pointer (some f))) 50 151 true).run Tryd.prog w = .ok (.tuple #[.nilIface, .bool false]) w := run_typeAssert_lacksB Tryd.underlying151 (by kernel_rfl) (by kernel_rfl) _ _ w
theorem m_comparable (h : Value) (w : World) : (Go.method 321 149 (.agg #[h]) "Comparable").run Tryd.prog w = .ok (166, .agg #[h]) w := by kernel_rfl
theorem cmp_errno (w : World) : (ReflectliteType.method (fun t => do Rtype.noPackHeld "Comparable" t; (fun a => Value.bool a.comparable) <$> typeInfo t) #[.agg #[.pointer (some ⟨5, 53, none⟩)]]).run Tryd.prog w = .ok (.bool true) w := by kernel_rfl
theorem eq_errno (c d : Int) (w : World) : (binOp .eql 50 (.iface 53 (.int .i64 c)) (.iface 53 (.int .i64 d))).run Tryd.prog w = .ok (.bool (c == d)) w := by
  have hinfo : (Tryd.prog.info? 53).map (fun i => i.comparable) = some true := by kernel_rfl
  obtain ⟨i, hi, hc⟩ := Option.map_eq_some_iff.1 hinfo
  have h : ∀ k : Nat, (Op.equalIn (k + 2) 50 (.iface 53 (.int .i64 c)) (.iface 53 (.int .i64 d))).run Tryd.prog w = .ok (c == d) w := fun k => by
    simp [Op.equalIn, run_underlying Tryd.underlying50, run_underlying Tryd.underlying53, typeInfo, hi, hc]
  simp only [binOp]
  simp [Op.equal, Op.maxDepth, h 9998]
theorem eq_other (f : Addr) (d : Int) (w : World) : (binOp .eql 50 (.iface 165 (.pointer (some f))) (.iface 53 (.int .i64 d))).run Tryd.prog w = .ok (.bool false) w :=
  run_eql_iface_types _ _ _ _ Tryd.underlying50 (by decide) w
set_option maxRecDepth 100000 in
set_option maxHeartbeats 4000000 in
theorem is_errno (fb : Nat) (c : Int) (w : World) (hfc : w.cell? ⟨fb, 2, none⟩ = some (.iface 53 (.int .i64 c))) :
    Calls Tryd.prog 33 #[.iface 165 (.pointer (some ⟨fb, 0, none⟩)), .iface 53 (.int .i64 c)] w fun ev w' => ev = .returned (.bool true) ∧ w' = w := by
  have h10 := @run_callFunc_extern Tryd.prog 74 _ ReflectliteType.typeOf Tryd.func74 (by kernel_rfl) (by kernel_rfl) (by kernel_rfl) (by kernel_rfl)
  have h90 := @run_callFunc_extern Tryd.prog 166 _ (ReflectliteType.method (fun t => do Rtype.noPackHeld "Comparable" t; pure (.bool (← typeInfo t).comparable))) Tryd.func166 (by kernel_rfl) (by kernel_rfl) (by kernel_rfl) (by kernel_rfl)
  have cE := cmp_errno
  have qE := eq_errno c c
  rw [show (c == c) = true by simp] at qE
  have qO := eq_other
  have tO := e_typeOf
  have mU := e_method
  have mC := m_comparable
  have tI := ta_is
  have tU := ta_unwrap
  go_enter Tryd.func33, Tryd.ntmps33
  go_wp2
  refine wp_loop_rounds 2 ?_
  rw [rounds_succ]
  go_wp2
  rw [rounds_succ]
  go_wp2
  go_ret
  exact ⟨rfl, rfl⟩
set_option maxRecDepth 100000 in
set_option maxHeartbeats 4000000 in
theorem is_self (c : Int) (w : World) :
    Calls Tryd.prog 33 #[.iface 53 (.int .i64 c), .iface 53 (.int .i64 c)] w fun ev w' => ev = .returned (.bool true) ∧ w' = w := by
  have h10 := @run_callFunc_extern Tryd.prog 74 _ ReflectliteType.typeOf Tryd.func74 (by kernel_rfl) (by kernel_rfl) (by kernel_rfl) (by kernel_rfl)
  have h90 := @run_callFunc_extern Tryd.prog 166 _ (ReflectliteType.method (fun t => do Rtype.noPackHeld "Comparable" t; pure (.bool (← typeInfo t).comparable))) Tryd.func166 (by kernel_rfl) (by kernel_rfl) (by kernel_rfl) (by kernel_rfl)
  have cE := cmp_errno
  have qE := eq_errno c c
  rw [show (c == c) = true by simp] at qE
  have tO := e_typeOf
  have mC := m_comparable
  go_enter Tryd.func33, Tryd.ntmps33
  go_wp2
  refine wp_loop_rounds 1 ?_
  rw [rounds_succ]
  go_wp2
  go_ret
  exact ⟨rfl, rfl⟩
end Go.Proofs.YtlddelnbjihhgaaDoor
