/- errors.Is, asked of nil, of an Errno, of a Fault. -/
import Derived.Test.YtdgjbbcalffbcaaBBase
import Derived.LaidEql
import Derived.Stop.Asserts
import Derived.RowKitTokens
namespace Go.Proofs.Ytdgjbbcalffbcaa
open Go.RowKit Go.Extern.Stop Go.Stop Go.Extern

theorem e_typeOf (v : Value) (w : World) : (ReflectliteType.typeOf #[.iface 54 v]).run Try.prog w = .ok (.iface 100 (.agg #[.pointer (some ⟨0, 54, none⟩)])) w := by kernel_rfl
theorem e_method (f : Addr) (w : World) : (Go.method 256 118 (.pointer (some f)) "Unwrap").run Try.prog w = .ok (109, .pointer (some f)) w := by kernel_rfl
theorem m_comparable (h : Value) (w : World) : (Go.method 256 100 (.agg #[h]) "Comparable").run Try.prog w = .ok (99, .agg #[h]) w := by kernel_rfl
theorem cmp_errno (w : World) : (ReflectliteType.method (fun t => do Rtype.noPackHeld "Comparable" t; (fun a => Value.bool a.comparable) <$> typeInfo t) #[.agg #[.pointer (some ⟨0, 54, none⟩)]]).run Try.prog w = .ok (.bool true) w := by kernel_rfl
theorem ta_is (f : Addr) (w : World) : (Instr.typeAssert (.iface 118 (.pointer (some f))) 47 102 true).run Try.prog w = .ok (.tuple #[.nilIface, .bool false]) w := run_typeAssert_lacksB Try.underlying102 (by kernel_rfl) (by kernel_rfl) _ _ w
theorem ta_unwrap (f : Addr) (w : World) : (Instr.typeAssert (.iface 118 (.pointer (some f))) 47 105 true).run Try.prog w = .ok (.tuple #[.iface 118 (.pointer (some f)), .bool true]) w := run_typeAssert_hasB Try.underlying105 (by kernel_rfl) _ _ w
theorem te_is (c : Int) (w : World) : (Instr.typeAssert (.iface 54 (.int .i64 c)) 47 102 true).run Try.prog w = .ok (.tuple #[.nilIface, .bool false]) w := run_typeAssert_lacksB Try.underlying102 (by kernel_rfl) (by kernel_rfl) _ _ w
theorem te_unwrap (c : Int) (w : World) : (Instr.typeAssert (.iface 54 (.int .i64 c)) 47 105 true).run Try.prog w = .ok (.tuple #[.nilIface, .bool false]) w := run_typeAssert_lacksB Try.underlying105 (by kernel_rfl) (by kernel_rfl) _ _ w
theorem te_unwraps (c : Int) (w : World) : (Instr.typeAssert (.iface 54 (.int .i64 c)) 47 107 true).run Try.prog w = .ok (.tuple #[.nilIface, .bool false]) w := run_typeAssert_lacksB Try.underlying107 (by kernel_rfl) (by kernel_rfl) _ _ w
theorem eq_errno (c d : Int) (w : World) : (binOp .eql 47 (.iface 54 (.int .i64 c)) (.iface 54 (.int .i64 d))).run Try.prog w = .ok (.bool (c == d)) w := by
  have hinfo : (Try.prog.info? 54).map (fun i => i.comparable) = some true := by kernel_rfl
  obtain ⟨i, hi, hc⟩ := Option.map_eq_some_iff.1 hinfo
  have h : ∀ k : Nat, (Op.equalIn (k + 2) 47 (.iface 54 (.int .i64 c)) (.iface 54 (.int .i64 d))).run Try.prog w = .ok (c == d) w := fun k => by
    simp [Op.equalIn, run_underlying Try.underlying47, run_underlying Try.underlying54, typeInfo, hi, hc]
  simp only [binOp]
  simp [Op.equal, Op.maxDepth, h 9998]
theorem eq_other (f : Addr) (d : Int) (w : World) : (binOp .eql 47 (.iface 118 (.pointer (some f))) (.iface 54 (.int .i64 d))).run Try.prog w = .ok (.bool false) w :=
  run_eql_iface_types _ _ _ _ Try.underlying47 (by decide) w
theorem eq_nil (d : Int) (w : World) : (binOp .eql 47 .nilIface (.iface 54 (.int .i64 d))).run Try.prog w = .ok (.bool false) w := by kernel_rfl
set_option maxRecDepth 100000 in
/-- errors.Is(nil, an Errno). -/
theorem is_nil (d : Int) (w : World) : Calls Try.prog 26 #[.nilIface, .iface 54 (.int .i64 d)] w fun ev w' => ev = .returned (.bool false) ∧ w' = w := by
  have qN := eq_nil
  go_enter Try.func26, Try.ntmps26
  go_wp2_with fail
  go_ret
  exact ⟨rfl, rfl⟩
set_option maxRecDepth 100000 in
set_option maxHeartbeats 4000000 in
theorem is_self (c : Int) (w : World) : Calls Try.prog 26 #[.iface 54 (.int .i64 c), .iface 54 (.int .i64 c)] w fun ev w' => ev = .returned (.bool true) ∧ w' = w := by
  have h10 := @run_callFunc_extern Try.prog 47 _ ReflectliteType.typeOf Try.func47 (by kernel_rfl) (by kernel_rfl) (by kernel_rfl) (by kernel_rfl)
  have h90 := @run_callFunc_extern Try.prog 99 _ (ReflectliteType.method (fun t => do Rtype.noPackHeld "Comparable" t; pure (.bool (← typeInfo t).comparable))) Try.func99 (by kernel_rfl) (by kernel_rfl) (by kernel_rfl) (by kernel_rfl)
  have cE := cmp_errno
  have qE := eq_errno c c
  rw [show (c == c) = true by simp] at qE
  have tO := e_typeOf
  have mC := m_comparable
  go_enter Try.func26, Try.ntmps26
  go_wp2
  refine wp_loop_rounds 1 ?_
  rw [rounds_succ]
  go_wp2
  go_ret
  exact ⟨rfl, rfl⟩
set_option maxRecDepth 100000 in
set_option maxHeartbeats 4000000 in
theorem is_fault (fb : Nat) (c : Int) (w : World) (hfc : w.cell? ⟨fb, 2, none⟩ = some (.iface 54 (.int .i64 c))) :
    Calls Try.prog 26 #[.iface 118 (.pointer (some ⟨fb, 0, none⟩)), .iface 54 (.int .i64 c)] w fun ev w' => ev = .returned (.bool true) ∧ w' = w := by
  have h10 := @run_callFunc_extern Try.prog 47 _ ReflectliteType.typeOf Try.func47 (by kernel_rfl) (by kernel_rfl) (by kernel_rfl) (by kernel_rfl)
  have h90 := @run_callFunc_extern Try.prog 99 _ (ReflectliteType.method (fun t => do Rtype.noPackHeld "Comparable" t; pure (.bool (← typeInfo t).comparable))) Try.func99 (by kernel_rfl) (by kernel_rfl) (by kernel_rfl) (by kernel_rfl)
  have cE := cmp_errno
  have qE := eq_errno c c
  rw [show (c == c) = true by simp] at qE
  have qO := eq_other
  have tO := e_typeOf
  have mU := e_method
  have mC := m_comparable
  have tI := ta_is
  have tU := ta_unwrap
  go_enter Try.func26, Try.ntmps26
  go_wp2
  refine wp_loop_rounds 2 ?_
  rw [rounds_succ]
  go_wp2
  rw [rounds_succ]
  go_wp2
  go_ret
  exact ⟨rfl, rfl⟩
set_option maxRecDepth 100000 in
set_option maxHeartbeats 4000000 in
theorem is_other (fb : Nat) (c d : Int) (w : World) (hcd : c ≠ d) (hfc : w.cell? ⟨fb, 2, none⟩ = some (.iface 54 (.int .i64 c))) :
    Calls Try.prog 26 #[.iface 118 (.pointer (some ⟨fb, 0, none⟩)), .iface 54 (.int .i64 d)] w fun ev w' => ev = .returned (.bool false) ∧ w' = w := by
  have h10 := @run_callFunc_extern Try.prog 47 _ ReflectliteType.typeOf Try.func47 (by kernel_rfl) (by kernel_rfl) (by kernel_rfl) (by kernel_rfl)
  have h90 := @run_callFunc_extern Try.prog 99 _ (ReflectliteType.method (fun t => do Rtype.noPackHeld "Comparable" t; pure (.bool (← typeInfo t).comparable))) Try.func99 (by kernel_rfl) (by kernel_rfl) (by kernel_rfl) (by kernel_rfl)
  have cE := cmp_errno
  have qE := eq_errno c d
  rw [show (c == d) = false by simp [hcd]] at qE
  have qO := eq_other
  have tO := e_typeOf
  have mU := e_method
  have mC := m_comparable
  have tI := ta_is
  have tU := ta_unwrap
  have t1 := te_is
  have t2 := te_unwrap
  have t3 := te_unwraps
  clear hcd
  go_enter Try.func26, Try.ntmps26
  go_wp2
  refine wp_loop_rounds 2 ?_
  rw [rounds_succ]
  go_wp2
  rw [rounds_succ]
  go_wp2
  go_ret
  exact ⟨rfl, rfl⟩
end Go.Proofs.Ytdgjbbcalffbcaa
