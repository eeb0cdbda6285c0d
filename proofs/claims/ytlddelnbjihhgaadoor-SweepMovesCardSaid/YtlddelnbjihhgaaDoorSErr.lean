/- What errors.As and 'number' tell at the errors of the sweep layer. -/
import Derived.Test.YtlddelnbjihhgaaDoorNAsWalk
namespace Go.Proofs.YtlddelnbjihhgaaDoor
open Go.RowKit Go.Extern.Stop Go.Stop Go.Extern
attribute [local go_sem ↓] Go.wp_at_zero Go.wp_at_succ

/-- The library's own variable, as it is laid. -/
def ErrTy (w : World) : Prop := w.cell? ⟨0, 0, none⟩ = some (.iface 149 (.agg #[.pointer (some ⟨5, 50, none⟩)]))
theorem ErrTy.lt {w : World} (h : ErrTy w) : 0 < w.heap.size := World.block_lt_of_cell? w _ h
theorem ErrTy.only {own : Nat → Prop} {w w' : World} (h : ErrTy w) (ho : Only own w w') (hn : ¬ own 0) : ErrTy w' := (World.cell?_of_block (a := ⟨0, 0, none⟩) (ho.2.2.2.2 0 h.lt hn)).trans h
theorem ErrTy.below {w w' : World} (h : ErrTy w) (hb : Below w.heap.size w w') : ErrTy w' := (hb.cell (p := ⟨0, 0, none⟩) h.lt).trans h
theorem only_set {w w' : World} (hb : Below w.heap.size w w') (fv : Nat) (u : Value) : Only (fun i => i = fv) w (w'.setCell ⟨fv, 0, none⟩ u) :=
  (Only.of_below hb _).trans (Only.of_grown (grown_set w' ⟨fv, 0, none⟩ u) (own := fun i => i = fv) fun r e => by simpa using e.symm) fun i hi => .inl hi
def RetAs (fv : Nat) (t : TypeId) (u : Value) (w : World) (e : Ending) (w' : World) : Prop := e = .returned (.bool true) ∧ Blk w' fv t #[u] ∧ Only (fun i => i = fv) w w'
theorem as_n {w : World} {fb nv : Nat} {v c : Int} {u : Value} (hf : Blk w fb 167 #[.string ⟨#[109, 107]⟩, .int .i64 v, .iface 53 (.int .i64 c)]) (hv : Blk w nv 53 #[u]) (he : ErrTy w) :
    Calls Tryd.prog 71 #[.iface 165 (.pointer (some ⟨fb, 0, none⟩)), .iface 104 (.pointer (some ⟨nv, 0, none⟩))] w (RetAs nv 53 (.int .i64 c) w) := by
  refine (as_errno fb c ⟨nv, 0, none⟩ u w hf.lt (hf.cell 2) he (hv.cell 0) (hv.frozen 0)).mono ?_
  rintro e w' ⟨rfl, rfl⟩
  have hb := (((((Below.refl w.heap.size w).alloc (Nat.le_refl _) (.cells #[.pointer (some ⟨nv, 0, none⟩)] 104)).alloc (by simp) (.cells #[.pointer (some ⟨5, 104, none⟩), .pointer (some ⟨w.heap.size, 0, none⟩), .int .u64 150] 141)).alloc (by simp; omega) (.cells #[.pointer (some ⟨5, 104, none⟩), .pointer (some ⟨w.heap.size, 0, none⟩), .int .u64 150] 141)).alloc (by simp; omega) (.cells #[.int .i64 c] 53))
  exact ⟨rfl, (hv.below hb hv.lt).set_ 0 _, only_set hb nv _⟩
set_option maxRecDepth 100000 in
set_option maxHeartbeats 4000000 in
theorem as_self (c : Int) (t : Addr) (old : Value) (w : World) (hg : w.cell? ⟨0, 0, none⟩ = some (.iface 149 (.agg #[.pointer (some ⟨5, 50, none⟩)]))) (ht0 : w.cell? t = some old) (hf0 : w.frozen? t = false) :
    Calls Tryd.prog 71 #[.iface 53 (.int .i64 c), .iface 104 (.pointer (some t))] w fun ev w' => ev = .returned (.bool true) ∧ w' = ((((w.alloc (.cells #[.pointer (some t)] 104)).alloc (.cells #[.pointer (some ⟨5, 104, none⟩), .pointer (some ⟨w.heap.size, 0, none⟩), .int .u64 150] 141)).alloc (.cells #[.pointer (some ⟨5, 104, none⟩), .pointer (some ⟨w.heap.size, 0, none⟩), .int .u64 150] 141)).alloc (.cells #[.int .i64 c] 53)).setCell t (.int .i64 c) := by
  have h6 := @run_callFunc_extern Tryd.prog 108 _ (fun args => ReflectliteValue.unpack (args.getD 0 (.tuple #[]))) Tryd.func108 (by kernel_rfl) (by kernel_rfl) (by kernel_rfl) (by kernel_rfl)
  have h7 := @run_callFunc_extern Tryd.prog 109 _ (ReflectliteValue.methodAny (ReflectliteValue.valueError "reflectlite.Value.Type" 0) (fun t _ _ _ => ReflectliteType.toType t)) Tryd.func109 (by kernel_rfl) (by kernel_rfl) (by kernel_rfl) (by kernel_rfl)
  have h8 := @run_callFunc_extern Tryd.prog 110 _ (ReflectliteValue.method (ReflectliteValue.valueError "reflectlite.Value.IsNil" 0) ReflectliteValue.isNil) Tryd.func110 (by kernel_rfl) (by kernel_rfl) (by kernel_rfl) (by kernel_rfl)
  have h27 := @run_callFunc_extern Tryd.prog 156 _ (ReflectliteType.abiMethod fun t => do pure (.int .u8 (← Rtype.kind t))) Tryd.func156 (by kernel_rfl) (by kernel_rfl) (by kernel_rfl) (by kernel_rfl)
  have h37 := @run_callFunc_extern Tryd.prog 167 _ (ReflectliteType.method ReflectliteType.elem) Tryd.func167 (by kernel_rfl) (by kernel_rfl) (by kernel_rfl) (by kernel_rfl)
  have h38 := @run_callFunc_extern Tryd.prog 168 _ (ReflectliteType.relation "Implements" ReflectliteType.implements_) Tryd.func168 (by kernel_rfl) (by kernel_rfl) (by kernel_rfl) (by kernel_rfl)
  have h10 := @run_callFunc_extern Tryd.prog 74 _ ReflectliteType.typeOf Tryd.func74 (by kernel_rfl) (by kernel_rfl) (by kernel_rfl) (by kernel_rfl)
  have h35 := @run_callFunc_extern Tryd.prog 165 _ (ReflectliteType.relation "AssignableTo" ReflectliteType.assignableTo) Tryd.func165 (by kernel_rfl) (by kernel_rfl) (by kernel_rfl) (by kernel_rfl)
  have h11 := @run_callFunc_extern Tryd.prog 124 _ (ReflectliteValue.method (ReflectliteValue.valueError "reflectlite.Value.Elem" 0) ReflectliteValue.elem) Tryd.func124 (by kernel_rfl) (by kernel_rfl) (by kernel_rfl) (by kernel_rfl)
  have h12 := @run_callFunc_extern Tryd.prog 125 _ ReflectliteValue.set Tryd.func125 (by kernel_rfl) (by kernel_rfl) (by kernel_rfl) (by kernel_rfl)
  have tO := e_typeOf
  have mA := Tryd.methodAssignableTo
  have a25 := e_assign
  have v25 := e_valueOfE
  have f6 := e_valueOf
  have f7 := e_type
  have mK := Tryd.methodKind
  have mE := Tryd.methodElem
  have mI := Tryd.methodImplements
  have k27 := e_kindP
  have k25 := e_kind
  have e27 := e_elem
  have i25 := e_implements
  have n8 := e_isNil ⟨w.heap.size, 0, none⟩ t ((w.alloc (.cells #[.pointer (some t)] 104)).alloc (.cells #[.pointer (some ⟨5, 104, none⟩), .pointer (some ⟨w.heap.size, 0, none⟩), .int .u64 150] 141)) (by simp)
  have hlt : 0 < w.heap.size := by
    rcases Nat.eq_zero_or_pos w.heap.size with h0 | h
    · simp [World.cell?, h0] at hg
    · exact h
  have hg2 : ((w.alloc (.cells #[.pointer (some t)] 104)).alloc (.cells #[.pointer (some ⟨5, 104, none⟩), .pointer (some ⟨w.heap.size, 0, none⟩), .int .u64 150] 141)).cell? ⟨0, 0, none⟩ = some (.iface 149 (.agg #[.pointer (some ⟨5, 50, none⟩)])) := by
    rw [World.cell?_alloc_lt _ _ ⟨0, 0, none⟩ (by simp), World.cell?_alloc_lt _ _ ⟨0, 0, none⟩ hlt]; exact hg
  have htl : t.block < w.heap.size := by
    rcases Nat.lt_or_ge t.block w.heap.size with h | h
    · exact h
    · simp [World.cell?, Array.getElem?_eq_none h] at ht0
  have el := e_elemV ⟨w.heap.size, 0, none⟩ t (((w.alloc (.cells #[.pointer (some t)] 104)).alloc (.cells #[.pointer (some ⟨5, 104, none⟩), .pointer (some ⟨w.heap.size, 0, none⟩), .int .u64 150] 141)).alloc (.cells #[.pointer (some ⟨5, 104, none⟩), .pointer (some ⟨w.heap.size, 0, none⟩), .int .u64 150] 141)) (by rw [World.cell?_alloc_lt _ _ ⟨w.heap.size, 0, none⟩ (by simp; omega)]; simp)
  have st := e_set t ⟨w.heap.size + 1 + 1 + 1, 0, none⟩ c old ((((w.alloc (.cells #[.pointer (some t)] 104)).alloc (.cells #[.pointer (some ⟨5, 104, none⟩), .pointer (some ⟨w.heap.size, 0, none⟩), .int .u64 150] 141)).alloc (.cells #[.pointer (some ⟨5, 104, none⟩), .pointer (some ⟨w.heap.size, 0, none⟩), .int .u64 150] 141)).alloc (.cells #[.int .i64 c] 53))
    (by rw [World.cell?_alloc_at _ _ _ _ (by simp)]; rfl)
    (by rw [World.cell?_alloc_lt _ _ t (by simp; omega), World.cell?_alloc_lt _ _ t (by simp; omega), World.cell?_alloc_lt _ _ t (by simp; omega), World.cell?_alloc_lt _ _ t htl]; exact ht0)
    (by rw [World.frozen?_alloc_old _ _ t (by simp; omega), World.frozen?_alloc_old _ _ t (by simp; omega), World.frozen?_alloc_old _ _ t (by simp; omega), World.frozen?_alloc_old _ _ t (Nat.ne_of_lt htl)]; exact hf0)
  go_enter Tryd.func71, Tryd.ntmps71
  go_wp2
  refine wp_loop_rounds 1 ?_
  rw [rounds_succ]
  go_wp2
  go_ret
  exact ⟨rfl, rfl⟩
def RetNo (c : Int) (w : World) (e : Ending) (w' : World) : Prop := e = .returned (.int .i64 c) ∧ Below w.heap.size w w'
theorem as_s {w : World} {nv : Nat} {c : Int} {u : Value} (hv : Blk w nv 53 #[u]) (he : ErrTy w) :
    Calls Tryd.prog 71 #[.iface 53 (.int .i64 c), .iface 104 (.pointer (some ⟨nv, 0, none⟩))] w (RetAs nv 53 (.int .i64 c) w) := by
  refine (as_self c ⟨nv, 0, none⟩ u w he (hv.cell 0) (hv.frozen 0)).mono ?_
  rintro e w' ⟨rfl, rfl⟩
  have hb := (((((Below.refl w.heap.size w).alloc (Nat.le_refl _) (.cells #[.pointer (some ⟨nv, 0, none⟩)] 104)).alloc (by simp) (.cells #[.pointer (some ⟨5, 104, none⟩), .pointer (some ⟨w.heap.size, 0, none⟩), .int .u64 150] 141)).alloc (by simp; omega) (.cells #[.pointer (some ⟨5, 104, none⟩), .pointer (some ⟨w.heap.size, 0, none⟩), .int .u64 150] 141)).alloc (by simp; omega) (.cells #[.int .i64 c] 53))
  exact ⟨rfl, (hv.below hb hv.lt).set_ 0 _, only_set hb nv _⟩
set_option maxRecDepth 100000 in
theorem number_nil (w : World) : Calls Tryd.prog 29 #[.nilIface] w (RetNo 0 w) := by
  have hb := (Below.refl w.heap.size w).alloc (Nat.le_refl _) (.cells #[.int .i64 0] 53)
  have HB := Lib.hid hb
  clear hb
  go_enter Tryd.func29, Tryd.ntmps29
  go_wp2_with fail
  go_ret
  exact ⟨rfl, HB.out⟩
set_option maxRecDepth 100000 in
theorem number_self (c : Int) {w : World} (he : ErrTy w) : Calls Tryd.prog 29 #[.iface 53 (.int .i64 c)] w (RetNo c w) := by
  have hb := (Below.refl w.heap.size w).alloc (Nat.le_refl _) (.cells #[.int .i64 0] 53)
  have HA := Lib.hid (as_s (c := c) (Blk.new w 53 #[.int .i64 0]) (he.below hb))
  have HB := Lib.hid hb
  clear hb
  go_enter Tryd.func29, Tryd.ntmps29
  go_wp2_with (first
    | (go_at_call 71; ((with_reducible refine HA.out.mono ?_); rintro e w1 ⟨rfl, hf1, ho1⟩); have x0 := hf1.cell 0; have HB1 := Lib.hid (HB.out.trans (ho1.below HB.out.size (fun i hi => by subst hi; exact Nat.le_refl _))); clear hf1 ho1))
  go_ret
  exact ⟨rfl, HB1.out⟩
set_option maxRecDepth 100000 in
theorem number_fault {w : World} {fb : Nat} {v c : Int} (hf : Blk w fb 167 #[.string ⟨#[109, 107]⟩, .int .i64 v, .iface 53 (.int .i64 c)]) (he : ErrTy w) :
    Calls Tryd.prog 29 #[.iface 165 (.pointer (some ⟨fb, 0, none⟩))] w (RetNo c w) := by
  have hb := (Below.refl w.heap.size w).alloc (Nat.le_refl _) (.cells #[.int .i64 0] 53)
  have HA := Lib.hid (as_n (hf.below hb hf.lt) (Blk.new w 53 #[.int .i64 0]) (he.below hb))
  have HB := Lib.hid hb
  clear hb
  go_enter Tryd.func29, Tryd.ntmps29
  go_wp2_with (first
    | (go_at_call 71; ((with_reducible refine HA.out.mono ?_); rintro e w1 ⟨rfl, hf1, ho1⟩); have x0 := hf1.cell 0; have HB1 := Lib.hid (HB.out.trans (ho1.below HB.out.size (fun i hi => by subst hi; exact Nat.le_refl _))); clear hf1 ho1))
  go_ret
  exact ⟨rfl, HB1.out⟩
end Go.Proofs.YtlddelnbjihhgaaDoor
