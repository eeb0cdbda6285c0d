/- The tree layer: what an argument holds that is a program. -/
import Derived.Test.YtklfcjimgnnlfaaDoorTrArgs
import Derived.Test.YtklfcjimgnnlfaaDoorTrPg
namespace Go.Proofs.YtklfcjimgnnlfaaDoor
open Go.ChangeShapes Go.WideShapes Go.ChangeAt Go.RowKit Go.Joins Go.ChangeMaps
theorem cellsEn : Tryd.prog.cellsOf 67 = 2 := by kernel_rfl
theorem cellsVa : Tryd.prog.cellsOf 42 = 3 := by kernel_rfl
theorem cellsPr : Tryd.prog.cellsOf 58 = 2 := by kernel_rfl
theorem cellsPg : Tryd.prog.cellsOf 27 = 4 := by kernel_rfl
theorem cellsStrs : Tryd.prog.cellsOf 65 = 1 := by kernel_rfl
theorem cellsEns : Tryd.prog.cellsOf 22 = 1 := by kernel_rfl
theorem cellsVas : Tryd.prog.cellsOf 23 = 1 := by kernel_rfl
theorem cellsPrs : Tryd.prog.cellsOf 24 = 1 := by kernel_rfl
def costT (s : ByteArray) : Nat := s.size + 1
def costEn (x : ByteArray × List ByteArray) : Nat := x.1.size + 2 + sumF costT x.2
def costVa (x : ByteArray × ByteArray × Int) : Nat := x.1.size + x.2.1.size + 3
def costPr (x : ByteArray × List St) : Nat := x.1.size + 2 + costB x.2
def costP (p : Pg) : Nat := sumF costEn p.enums + sumF costVa p.vars + sumF costPr p.procs + costB p.main
theorem sumF_len {α : Type} (f : α → Nat) (h : ∀ x, 1 ≤ f x) (l : List α) : l.length ≤ sumF f l := by
  induction l with
  | nil => exact Nat.zero_le _
  | cons x l ih => have := h x; simp only [sumF, List.length_cons]; omega
section
variable {H : Type} {enc : TypeId × Value → H} {W : World} {base : Nat} {sp : Nat → Bool} {held : Bool}
instance : Inhabited (ByteArray × List ByteArray) := ⟨(⟨#[]⟩, [])⟩
instance : Inhabited (ByteArray × ByteArray × Int) := ⟨(⟨#[]⟩, ⟨#[]⟩, 0)⟩
instance : Inhabited (ByteArray × List St) := ⟨(⟨#[]⟩, [])⟩
set_option maxRecDepth 100000 in
theorem rows_str {n : Nat} {v : Value} {x : DataW H × List MemPlace} (h : DataW.trod enc Tryd.prog W base sp held n 65 [v] = some x) (hB : Rows.uptoBulk x.1 ≤ 1048576) : ∃ l : List ByteArray, StrR (fun b => b < W.heap.size) W l v ∧ sumF costT l + 1 ≤ Rows.uptoBulk x.1 := by
  obtain ⟨m, l, A, cap, -, rfl, hlc, hat, hc⟩ := row_gen 1 (by omega) costT 1048576 (fun _ (x : ByteArray) cs => cs = [.string x]) (fun n x cs h => by rw [h]; rfl) Tryd.underlying65 cellsStr h hB
    (fun m cs y hm hy hb => by
      obtain ⟨s, hs, hy0, -⟩ := DataW.trod_string Tryd.underlying9 hy
      refine ⟨s, hs, ?_⟩
      rw [hy0]
      simp only [Rows.uptoBulk]
      exact Nat.le_refl _)
  have hlen := sumF_len costT (fun s => by unfold costT; omega) l
  refine ⟨l, ⟨A, cap, rfl, hlc, by omega, fun i z hz => ?_⟩, hc⟩
  obtain ⟨b, off, cs, hA, hbW, e, hcell⟩ := hat i z hz
  subst e
  have c0 := hcell 0 _ rfl
  rw [Nat.mul_one] at c0
  exact ⟨b, off, hA, hbW, c0⟩
/-- The cells of an enum, of a variable, of a procedure. -/
def KEn (W : World) (_ : Nat) (x : ByteArray × List ByteArray) (cs : List Value) : Prop := ∃ L, cs = [.string x.1, L] ∧ StrR (fun b => b < W.heap.size) W x.2 L
def KVa (_ : World) (_ : Nat) (x : ByteArray × ByteArray × Int) (cs : List Value) : Prop := cs = [.string x.1, .string x.2.1, .int .i64 x.2.2] ∧ In64 x.2.2
def KPr (W : World) (n : Nat) (x : ByteArray × List St) (cs : List Value) : Prop := ∃ L, cs = [.string x.1, L] ∧ StR (fun b => b < W.heap.size) n W x.2 L
set_option maxRecDepth 100000 in
theorem en_parts {n : Nat} {cs : List Value} {x : DataW H × List MemPlace} (h : DataW.trod enc Tryd.prog W base sp held n 67 cs = some x) (hB : Rows.uptoBulk x.1 ≤ 1048576) : ∃ z, KEn W n z cs ∧ costEn z ≤ Rows.uptoBulk x.1 := by
  obtain ⟨xs, m, hn, hx, hl, hlen, hel⟩ := DataW.trod_struct Tryd.underlying67 h
  rw [cellsEn] at hl
  match cs, hl, xs, hlen, hx with
  | [c0, c1], _, [y0, y1], _, hx =>
    have e0 : DataW.trod enc Tryd.prog W base sp held m 9 (([c0, c1].drop 0).take (Tryd.prog.cellsOf 9)) = some y0 := hel 0 _ rfl
    have e1 : DataW.trod enc Tryd.prog W base sp held m 65 (([c0, c1].drop 1).take (Tryd.prog.cellsOf 65)) = some y1 := hel 1 _ rfl
    rw [cellsStr] at e0
    rw [cellsStrs] at e1
    obtain ⟨o, ho, hy0, -⟩ := DataW.trod_string Tryd.underlying9 (show DataW.trod enc Tryd.prog W base sp held m 9 [c0] = some y0 from e0)
    have hb : Rows.uptoBulk x.1 = Rows.uptoBulk y0.1 + (Rows.uptoBulk y1.1 + 0) + 1 := by rw [hx]; rfl
    have b0 : Rows.uptoBulk y0.1 = o.size + 1 := by rw [hy0]; simp only [Rows.uptoBulk]; rfl
    obtain ⟨l, hr, hc⟩ := rows_str (show DataW.trod enc Tryd.prog W base sp held m 65 [c1] = some y1 from e1) (by omega)
    simp only [List.cons.injEq, and_true] at ho
    refine ⟨(o, l), ⟨c1, by rw [ho], hr⟩, ?_⟩
    simp only [costEn]
    omega
set_option maxRecDepth 100000 in
theorem va_parts {n : Nat} {cs : List Value} {x : DataW H × List MemPlace} (h : DataW.trod enc Tryd.prog W base sp held n 42 cs = some x) : ∃ z, KVa W n z cs ∧ costVa z ≤ Rows.uptoBulk x.1 := by
  obtain ⟨xs, m, hn, hx, hl, hlen, hel⟩ := DataW.trod_struct Tryd.underlying42 h
  rw [cellsVa] at hl
  match cs, hl, xs, hlen, hx with
  | [c0, c1, c2], _, [y0, y1, y2], _, hx =>
    have e0 : DataW.trod enc Tryd.prog W base sp held m 9 (([c0, c1, c2].drop 0).take (Tryd.prog.cellsOf 9)) = some y0 := hel 0 _ rfl
    have e1 : DataW.trod enc Tryd.prog W base sp held m 9 (([c0, c1, c2].drop 1).take (Tryd.prog.cellsOf 9)) = some y1 := hel 1 _ rfl
    have e2 : DataW.trod enc Tryd.prog W base sp held m 3 (([c0, c1, c2].drop 2).take (Tryd.prog.cellsOf 3)) = some y2 := hel 2 _ rfl
    rw [cellsStr] at e0 e1
    rw [cellsInt] at e2
    obtain ⟨o, ho, hy0, -⟩ := DataW.trod_string Tryd.underlying9 (show DataW.trod enc Tryd.prog W base sp held m 9 [c0] = some y0 from e0)
    obtain ⟨s, hs, hy1, -⟩ := DataW.trod_string Tryd.underlying9 (show DataW.trod enc Tryd.prog W base sp held m 9 [c1] = some y1 from e1)
    obtain ⟨k, hk, -, hkw⟩ := DataW.trod_int Tryd.underlying3 (show DataW.trod enc Tryd.prog W base sp held m 3 [c2] = some y2 from e2)
    have hb : Rows.uptoBulk x.1 = Rows.uptoBulk y0.1 + (Rows.uptoBulk y1.1 + (Rows.uptoBulk y2.1 + 0)) + 1 := by rw [hx]; rfl
    have b0 : Rows.uptoBulk y0.1 = o.size + 1 := by rw [hy0]; simp only [Rows.uptoBulk]; rfl
    have b1 : Rows.uptoBulk y1.1 = s.size + 1 := by rw [hy1]; simp only [Rows.uptoBulk]; rfl
    have b2 := bulk_one y2.1
    simp only [List.cons.injEq, and_true] at ho hs hk
    refine ⟨(o, s, k), ⟨by rw [ho, hs, hk], in64_of hkw⟩, ?_⟩
    simp only [costVa]
    omega
set_option maxRecDepth 100000 in
theorem pr_parts {n : Nat} {cs : List Value} {x : DataW H × List MemPlace} (h : DataW.trod enc Tryd.prog W base sp held n 58 cs = some x) (hB : Rows.uptoBulk x.1 ≤ 1048576) : ∃ z, KPr W n z cs ∧ costPr z ≤ Rows.uptoBulk x.1 := by
  obtain ⟨xs, m, hn, hx, hl, hlen, hel⟩ := DataW.trod_struct Tryd.underlying58 h
  rw [cellsPr] at hl
  match cs, hl, xs, hlen, hx with
  | [c0, c1], _, [y0, y1], _, hx =>
    have e0 : DataW.trod enc Tryd.prog W base sp held m 9 (([c0, c1].drop 0).take (Tryd.prog.cellsOf 9)) = some y0 := hel 0 _ rfl
    have e1 : DataW.trod enc Tryd.prog W base sp held m 25 (([c0, c1].drop 1).take (Tryd.prog.cellsOf 25)) = some y1 := hel 1 _ rfl
    rw [cellsStr] at e0
    rw [cellsSts] at e1
    obtain ⟨o, ho, hy0, -⟩ := DataW.trod_string Tryd.underlying9 (show DataW.trod enc Tryd.prog W base sp held m 9 [c0] = some y0 from e0)
    have hb : Rows.uptoBulk x.1 = Rows.uptoBulk y0.1 + (Rows.uptoBulk y1.1 + 0) + 1 := by rw [hx]; rfl
    have b0 : Rows.uptoBulk y0.1 = o.size + 1 := by rw [hy0]; simp only [Rows.uptoBulk]; rfl
    obtain ⟨l, hr, hc⟩ := rows_st m c1 y1 (show DataW.trod enc Tryd.prog W base sp held m 25 [c1] = some y1 from e1) (by omega)
    simp only [List.cons.injEq, and_true] at ho
    refine ⟨(o, l), ⟨c1, by rw [ho], hr.le (by omega)⟩, ?_⟩
    simp only [costPr]
    omega
set_option maxRecDepth 100000 in
theorem rows_en {n : Nat} {v : Value} {x : DataW H × List MemPlace} (h : DataW.trod enc Tryd.prog W base sp held n 22 [v] = some x) (hB : Rows.uptoBulk x.1 ≤ 1048576) : ∃ l, EnR (fun b => b < W.heap.size) W l v ∧ sumF costEn l + 1 ≤ Rows.uptoBulk x.1 := by
  obtain ⟨m, l, A, cap, -, rfl, hlc, hat, hc⟩ := row_gen 2 (by omega) costEn 1048576 (KEn W) (fun n x cs h => by obtain ⟨L, e, -⟩ := h; rw [e]; rfl) Tryd.underlying22 cellsEn h hB (fun m cs y hm hy hb => en_parts hy hb)
  have hlen := sumF_len costEn (fun s => by unfold costEn; omega) l
  refine ⟨l, ⟨A, cap, rfl, hlc, by omega, fun i z hz => ?_⟩, hc⟩
  obtain ⟨b, off, cs, hA, hbW, ⟨L, e, h1⟩, hcell⟩ := hat i z hz
  subst e
  exact ⟨b, off, L, hA, hbW, ⟨hcell 0 _ rfl, hcell 1 _ rfl⟩, h1⟩
set_option maxRecDepth 100000 in
theorem rows_va {n : Nat} {v : Value} {x : DataW H × List MemPlace} (h : DataW.trod enc Tryd.prog W base sp held n 23 [v] = some x) (hB : Rows.uptoBulk x.1 ≤ 1048576) : ∃ l, VaR (fun b => b < W.heap.size) W l v ∧ sumF costVa l + 1 ≤ Rows.uptoBulk x.1 := by
  obtain ⟨m, l, A, cap, -, rfl, hlc, hat, hc⟩ := row_gen 3 (by omega) costVa 1048576 (KVa W) (fun n x cs h => by rw [h.1]; rfl) Tryd.underlying23 cellsVa h hB (fun m cs y hm hy hb => va_parts hy)
  have hlen := sumF_len costVa (fun s => by unfold costVa; omega) l
  refine ⟨l, ⟨A, cap, rfl, hlc, by omega, fun i z hz => ?_⟩, hc⟩
  obtain ⟨b, off, cs, hA, hbW, ⟨e, h1⟩, hcell⟩ := hat i z hz
  subst e
  exact ⟨b, off, hA, hbW, ⟨hcell 0 _ rfl, hcell 1 _ rfl, hcell 2 _ rfl⟩, h1⟩
set_option maxRecDepth 100000 in
theorem rows_pr {n : Nat} {v : Value} {x : DataW H × List MemPlace} (h : DataW.trod enc Tryd.prog W base sp held n 24 [v] = some x) (hB : Rows.uptoBulk x.1 ≤ 1048576) : ∃ l, PrR (fun b => b < W.heap.size) n W l v ∧ sumF costPr l + 1 ≤ Rows.uptoBulk x.1 := by
  obtain ⟨m, l, A, cap, hm, rfl, hlc, hat, hc⟩ := row_gen 2 (by omega) costPr 1048576 (KPr W) (fun n x cs h => by obtain ⟨L, e, -⟩ := h; rw [e]; rfl) Tryd.underlying24 cellsPr h hB (fun m cs y hm hy hb => pr_parts hy hb)
  have hlen := sumF_len costPr (fun s => by unfold costPr; omega) l
  refine ⟨l, ⟨A, cap, rfl, hlc, by omega, fun i z hz => ?_⟩, hc⟩
  obtain ⟨b, off, cs, hA, hbW, ⟨L, e, h1⟩, hcell⟩ := hat i z hz
  subst e
  exact ⟨b, off, L, hA, hbW, ⟨hcell 0 _ rfl, hcell 1 _ rfl⟩, h1.le (by omega)⟩
end
section
variable {H : Type} {enc : TypeId × Value → H} {W : World} {b0 base : Nat} {sp : Nat → Bool} {held : Bool} {v : Value} {d : DataW H} {ps : List MemPlace}
set_option maxRecDepth 100000 in
theorem val_pg (hv : Value.okWide Tryd.prog W .any b0 27 v) (hd : DataW.Trod enc Tryd.prog W base sp held 27 v d ps) (hB : Rows.uptoBulk d ≤ 1048576) :
    ∃ (n : Nat) (p : Pg) (vE vV vP vM : Value), v = pgV vE vV vP vM ∧ PgR (fun b => b < W.heap.size) n W p vE vV vP vM ∧ costP p ≤ 1048576 := by
  obtain ⟨cs, rfl, hsz⟩ := okWide_struct Tryd.underlying27 hv
  obtain ⟨n, hf⟩ := hd
  have hf2 : DataW.trod enc Tryd.prog W base sp held n 27 cs.toList = some (d, ps) := hf
  obtain ⟨xs, m, hn, hx, hl, hlen, hel⟩ := DataW.trod_struct Tryd.underlying27 hf2
  rw [cellsPg] at hl
  obtain ⟨l⟩ := cs
  match l, hl, xs, hlen, hx with
  | [c0, c1, c2, c3], _, [y0, y1, y2, y3], _, hx =>
    have e0 : DataW.trod enc Tryd.prog W base sp held m 22 (([c0, c1, c2, c3].drop 0).take (Tryd.prog.cellsOf 22)) = some y0 := hel 0 _ rfl
    have e1 : DataW.trod enc Tryd.prog W base sp held m 23 (([c0, c1, c2, c3].drop 1).take (Tryd.prog.cellsOf 23)) = some y1 := hel 1 _ rfl
    have e2 : DataW.trod enc Tryd.prog W base sp held m 24 (([c0, c1, c2, c3].drop 2).take (Tryd.prog.cellsOf 24)) = some y2 := hel 2 _ rfl
    have e3 : DataW.trod enc Tryd.prog W base sp held m 25 (([c0, c1, c2, c3].drop 3).take (Tryd.prog.cellsOf 25)) = some y3 := hel 3 _ rfl
    rw [cellsEns] at e0
    rw [cellsVas] at e1
    rw [cellsPrs] at e2
    rw [cellsSts] at e3
    have hd1 : d = (DataW.agg ([y0, y1, y2, y3].map (·.1))) := congrArg Prod.fst hx
    have hb : Rows.uptoBulk d = Rows.uptoBulk y0.1 + (Rows.uptoBulk y1.1 + (Rows.uptoBulk y2.1 + (Rows.uptoBulk y3.1 + 0))) + 1 := by rw [hd1]; rfl
    obtain ⟨l0, r0, k0⟩ := rows_en (show DataW.trod enc Tryd.prog W base sp held m 22 [c0] = some y0 from e0) (by omega)
    obtain ⟨l1, r1, k1⟩ := rows_va (show DataW.trod enc Tryd.prog W base sp held m 23 [c1] = some y1 from e1) (by omega)
    obtain ⟨l2, r2, k2⟩ := rows_pr (show DataW.trod enc Tryd.prog W base sp held m 24 [c2] = some y2 from e2) (by omega)
    obtain ⟨l3, r3, k3⟩ := rows_st m c3 y3 (show DataW.trod enc Tryd.prog W base sp held m 25 [c3] = some y3 from e3) (by omega)
    exact ⟨m, ⟨l0, l1, l2, l3⟩, c0, c1, c2, c3, rfl, ⟨r0, r1, r2, r3⟩, by simp only [costP]; omega⟩
set_option maxRecDepth 100000 in
theorem val_int (hv : Value.okWide Tryd.prog W .any b0 3 v) (hd : DataW.Trod enc Tryd.prog W base sp held 3 v d ps) : ∃ x : Int, v = .int .i64 x ∧ In64 x := by
  obtain ⟨a, rfl, -, -, hw⟩ := open_int Tryd.underlying3 hv hd
  exact ⟨a, rfl, in64_of hw⟩
end
end Go.Proofs.YtklfcjimgnnlfaaDoor
