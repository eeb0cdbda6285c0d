/- The contract of number: an error's number. -/
import Derived.Test.YtchipmiklbnedaaDoorNText
namespace Go.Proofs.YtchipmiklbnedaaDoor
open Go.RowKit
attribute [local go_sem ↓] Go.wp_at_zero Go.wp_at_succ

/-- The library's own variable, as it is laid. -/
def ErrTy (w : World) : Prop := w.cell? ⟨0, 0, none⟩ = some (.iface 99 (.agg #[.pointer (some ⟨4, 33, none⟩)]))
theorem ErrTy.lt {w : World} (h : ErrTy w) : 0 < w.heap.size := World.block_lt_of_cell? w _ h
theorem ErrTy.only {own : Nat → Prop} {w w' : World} (h : ErrTy w) (ho : Only own w w') (hn : ¬ own 0) : ErrTy w' := (World.cell?_of_block (a := ⟨0, 0, none⟩) (ho.2.2.2.2 0 h.lt hn)).trans h
theorem ErrTy.below {w w' : World} (h : ErrTy w) (hb : Below w.heap.size w w') : ErrTy w' := (hb.cell (p := ⟨0, 0, none⟩) h.lt).trans h
theorem only_set {w w' : World} (hb : Below w.heap.size w w') (fv : Nat) (u : Value) : Only (fun i => i = fv) w (w'.setCell ⟨fv, 0, none⟩ u) :=
  (Only.of_below hb _).trans (Only.of_grown (grown_set w' ⟨fv, 0, none⟩ u) (own := fun i => i = fv) fun r e => by simpa using e.symm) fun i hi => .inl hi
def RetAs (fv : Nat) (t : TypeId) (u : Value) (w : World) (e : Ending) (w' : World) : Prop := e = .returned (.bool true) ∧ Blk w' fv t #[u] ∧ Only (fun i => i = fv) w w'
theorem as_f {w : World} {fb fv : Nat} {u : Value} (hv : Blk w fv 69 #[u]) (he : ErrTy w) :
    Calls Tryd.prog 35 #[.iface 69 (.pointer (some ⟨fb, 0, none⟩)), .iface 71 (.pointer (some ⟨fv, 0, none⟩))] w (RetAs fv 69 (.pointer (some ⟨fb, 0, none⟩)) w) := by
  refine (as_hit ⟨fb, 0, none⟩ ⟨fv, 0, none⟩ u w he (hv.cell 0) (hv.frozen 0)).mono ?_
  rintro e w' ⟨rfl, rfl⟩
  have hb := (((((Below.refl w.heap.size w).alloc (Nat.le_refl _) (.cells #[.pointer (some ⟨fv, 0, none⟩)] 71)).alloc (by simp) (.cells #[.pointer (some ⟨4, 71, none⟩), .pointer (some ⟨w.heap.size, 0, none⟩), .int .u64 150] 84)).alloc (by simp; omega) (.cells #[.pointer (some ⟨4, 71, none⟩), .pointer (some ⟨w.heap.size, 0, none⟩), .int .u64 150] 84)).alloc (by simp; omega) (.cells #[.pointer (some ⟨fb, 0, none⟩)] 69))
  exact ⟨rfl, (hv.below hb hv.lt).set_ 0 _, only_set hb fv _⟩
theorem as_n {w : World} {fb nv : Nat} {v c : Int} {u : Value} (hf : Blk w fb 74 #[.string ⟨#[109, 107]⟩, .int .i64 v, .iface 36 (.int .i64 c)]) (hv : Blk w nv 36 #[u]) (he : ErrTy w) :
    Calls Tryd.prog 35 #[.iface 69 (.pointer (some ⟨fb, 0, none⟩)), .iface 72 (.pointer (some ⟨nv, 0, none⟩))] w (RetAs nv 36 (.int .i64 c) w) := by
  refine (as_errno fb c ⟨nv, 0, none⟩ u w hf.lt (hf.cell 2) he (hv.cell 0) (hv.frozen 0)).mono ?_
  rintro e w' ⟨rfl, rfl⟩
  have hb := (((((Below.refl w.heap.size w).alloc (Nat.le_refl _) (.cells #[.pointer (some ⟨nv, 0, none⟩)] 72)).alloc (by simp) (.cells #[.pointer (some ⟨4, 72, none⟩), .pointer (some ⟨w.heap.size, 0, none⟩), .int .u64 150] 84)).alloc (by simp; omega) (.cells #[.pointer (some ⟨4, 72, none⟩), .pointer (some ⟨w.heap.size, 0, none⟩), .int .u64 150] 84)).alloc (by simp; omega) (.cells #[.int .i64 c] 36))
  exact ⟨rfl, (hv.below hb hv.lt).set_ 0 _, only_set hb nv _⟩
theorem number_nil (w : World) : Calls Tryd.prog 14 #[.nilIface] w (RetW (.int .i64 0) w) := by
  go_enter Tryd.func14, Tryd.ntmps14
  go_wp2_with fail
  go_ret
  exact ⟨rfl, rfl⟩
theorem ne_errno (c : Int) (w : World) : (binOp .neq 33 (.iface 36 (.int .i64 c)) (.iface 36 (.int .i64 c))).run Tryd.prog w = .ok (.bool false) w := by
  have hinfo : (Tryd.prog.info? 36).map (fun i => i.comparable) = some true := by kernel_rfl
  obtain ⟨i, hi, hc⟩ := Option.map_eq_some_iff.1 hinfo
  have h : ∀ k : Nat, (Op.equalIn (k + 2) 33 (.iface 36 (.int .i64 c)) (.iface 36 (.int .i64 c))).run Tryd.prog w = .ok true w := fun k => by
    simp [Op.equalIn, run_underlying Tryd.underlying33, run_underlying Tryd.underlying36, typeInfo, hi, hc]
  simp only [binOp]
  simp [Op.equal, Op.maxDepth, h 9998]
def RetNo (c : Int) (w : World) (e : Ending) (w' : World) : Prop := e = .returned (.int .i64 c) ∧ Below w.heap.size w w'
set_option maxRecDepth 100000 in
set_option maxHeartbeats 3200000 in
theorem number_fault {w : World} {fb : Nat} {v c : Int} (hf : Blk w fb 74 #[.string ⟨#[109, 107]⟩, .int .i64 v, .iface 36 (.int .i64 c)]) (he : ErrTy w) (ht : Tabs w) (hc : 0 ≤ c ∧ c ≤ 1000) :
    Calls Tryd.prog 14 #[.iface 69 (.pointer (some ⟨fb, 0, none⟩))] w (RetNo c w) := by
  have hb0 := (((Below.refl w.heap.size w).alloc (Nat.le_refl _) (.cells #[.pointer none] 69)).alloc (by simp) (.cells #[.int .i64 0] 36)).drew
  have hV : Blk ((w.alloc (.cells #[.pointer none] 69)).alloc (.cells #[.int .i64 0] 36)).drew w.heap.size 69 #[.pointer none] := (Below.heap_alloc _ _ _ (by simp)).trans (Blk.new w _ _)
  have hN : Blk ((w.alloc (.cells #[.pointer none] 69)).alloc (.cells #[.int .i64 0] 36)).drew (w.heap.size + 1) 36 #[.int .i64 0] := by
    have := Blk.new (w.alloc (.cells #[.pointer none] 69)) 36 #[.int .i64 0]
    simp only [World.size_alloc] at this
    exact this
  have hlt := he.lt
  have hflt := hf.lt
  have HV := Lib.hid hV
  have HN := Lib.hid hN
  have HE := Lib.hid (he.below hb0)
  have HF := Lib.hid (hf.below hb0 hf.lt)
  have HB := Lib.hid hb0
  have HT := Lib.hid ht
  have HC := Lib.hid hc
  have neE := ne_errno c
  have hsz := errTxt_size c hc
  clear hf he ht hc hb0 hV hN
  go_enter Tryd.func14, Tryd.ntmps14
  go_wp2_with fail
  go_region_with (first
    | (go_at_call 35; ((with_reducible refine (as_f HV.out HE.out).mono ?_); rintro e w1 ⟨rfl, hf1, ho1⟩); have HV1 := Lib.hid hf1; have HN1 := Lib.hid (ho1.blk HN.out (by omega)); have HE1 := Lib.hid (HE.out.only ho1 (by omega)); have HF1 := Lib.hid (ho1.blk HF.out (by omega)); have HB1 := Lib.hid (HB.out.trans (ho1.below (B := w.heap.size) HB.out.size (fun i hi => by omega))); clear hf1 ho1)
    | (go_at_call 35; ((with_reducible refine (as_n HF1.out HN1.out HE1.out).mono ?_); rintro e w2 ⟨rfl, hf2, ho2⟩); have HV2 := Lib.hid (ho2.blk HV1.out (by omega)); have HF2 := Lib.hid (ho2.blk HF1.out (by omega)); have HB2 := Lib.hid (HB1.out.trans (ho2.below (B := w.heap.size) HB1.out.size (fun i hi => by omega))); have HT2 := Lib.hid (HT.out.stays HB2.out); have x0 := HV2.out.cell 0; have x1 := hf2.cell 0; have x2 := HF2.out.cell 0; have HN2 := Lib.hid hf2; clear hf2 ho2)
    | (go_at_call 36; ((with_reducible refine (unwrap_any HF2.out).mono ?_); rintro e w9 ⟨rfl, rfl⟩))
    | (go_at_call 37; ((with_reducible refine (is_errno fb c _ (HF2.out.cell 2)).mono ?_); rintro e w9 ⟨rfl, rfl⟩))
    | (go_at_call 38; ((with_reducible refine (fault_text HC.out HF2.out HT2.out).mono ?_); rintro e w3 ⟨rfl, hb3⟩); have HB3 := Lib.hid (HB2.out.trans (hb3.mono HB2.out.size)); have HT3 := Lib.hid (HT.out.stays HB3.out); have x3 := (HN2.out.below hb3 HN2.out.lt).cell 0; have HN3 := Lib.hid (HN2.out.below hb3 HN2.out.lt); clear hb3)
    | (go_at_call 39; ((with_reducible refine (errno_any c HC.out _ HT3.out).mono ?_); rintro e w4 ⟨rfl, hb4⟩); have HB4 := Lib.hid (HB3.out.trans (hb4.mono HB3.out.size)); have x4 := (HN3.out.below hb4 HN3.out.lt).cell 0; clear hb4))
  all_goals go_wp2_with fail
  all_goals go_ret
  all_goals exact ⟨rfl, HB4.out⟩
end Go.Proofs.YtchipmiklbnedaaDoor
