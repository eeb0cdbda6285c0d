/- The tree layer: programs as they lie in memory; how great they are; what is the same. -/
import Derived.Test.YtklfcjimgnnlfaaDoorTrSame
import Derived.Test.YtklfcjimgnnlfaaDoorTrStmts
import Derived.Deep.QuietTactic
import Derived.BigQuiet
namespace Go.Proofs.YtklfcjimgnnlfaaDoor
open Go.RowKit
/-- A row of texts. -/
def StrR (P : Nat → Prop) (w : World) (l : List ByteArray) (v : Value) : Prop :=
  ∃ A cap, v = .slice A l.length cap ∧ l.length ≤ cap ∧ l.length * 16 ≤ 140737488355328 ∧ ∀ (i : Nat) (x : ByteArray), l[i]? = some x → ∃ b off, A = some ⟨b, off, none⟩ ∧ P b ∧ w.cell? ⟨b, off + i, none⟩ = some (.string x)
/-- Rows of enums, variables, procedures. -/
def EnR (P : Nat → Prop) (w : World) (l : List (ByteArray × List ByteArray)) (v : Value) : Prop :=
  ∃ A cap, v = .slice A l.length cap ∧ l.length ≤ cap ∧ l.length * 40 ≤ 140737488355328 ∧ ∀ (i : Nat) (x : ByteArray × List ByteArray), l[i]? = some x → ∃ b off L, A = some ⟨b, off, none⟩ ∧ P b ∧ (w.cell? ⟨b, off + i * 2, none⟩ = some (.string x.1) ∧ w.cell? ⟨b, off + i * 2 + 1, none⟩ = some L) ∧ StrR P w x.2 L
def VaR (P : Nat → Prop) (w : World) (l : List (ByteArray × ByteArray × Int)) (v : Value) : Prop :=
  ∃ A cap, v = .slice A l.length cap ∧ l.length ≤ cap ∧ l.length * 40 ≤ 140737488355328 ∧ ∀ (i : Nat) (x : ByteArray × ByteArray × Int), l[i]? = some x → ∃ b off, A = some ⟨b, off, none⟩ ∧ P b ∧ (w.cell? ⟨b, off + i * 3, none⟩ = some (.string x.1) ∧ w.cell? ⟨b, off + i * 3 + 1, none⟩ = some (.string x.2.1) ∧ w.cell? ⟨b, off + i * 3 + 2, none⟩ = some (.int .i64 x.2.2)) ∧ In64 x.2.2
def PrR (P : Nat → Prop) (n : Nat) (w : World) (l : List (ByteArray × List St)) (v : Value) : Prop :=
  ∃ A cap, v = .slice A l.length cap ∧ l.length ≤ cap ∧ l.length * 40 ≤ 140737488355328 ∧ ∀ (i : Nat) (x : ByteArray × List St), l[i]? = some x → ∃ b off L, A = some ⟨b, off, none⟩ ∧ P b ∧ (w.cell? ⟨b, off + i * 2, none⟩ = some (.string x.1) ∧ w.cell? ⟨b, off + i * 2 + 1, none⟩ = some L) ∧ StR P n w x.2 L
abbrev pgV (vE vV vP vM : Value) : Value := .agg #[vE, vV, vP, vM]
/-- A program. -/
structure PgR (P : Nat → Prop) (n : Nat) (w : World) (p : Pg) (vE vV vP vM : Value) : Prop where
  en : EnR P w p.enums vE
  va : VaR P w p.vars vV
  pr : PrR P n w p.procs vP
  mn : StR P n w p.main vM
section
variable {P P' : Nat → Prop} {n B : Nat} {w w' : World} {v : Value}
theorem keep2 {b o : Nat} {x y : Value} (h : w.cell? ⟨b, o, none⟩ = some x ∧ w.cell? ⟨b, o + 1, none⟩ = some y) (hk : w'.heap[b]? = w.heap[b]?) : w'.cell? ⟨b, o, none⟩ = some x ∧ w'.cell? ⟨b, o + 1, none⟩ = some y := by
  have q : ∀ o, w'.cell? ⟨b, o, none⟩ = w.cell? ⟨b, o, none⟩ := fun o => World.cell?_of_block hk
  rw [q, q]; exact h
theorem keep3 {b o : Nat} {x y z : Value} (h : w.cell? ⟨b, o, none⟩ = some x ∧ w.cell? ⟨b, o + 1, none⟩ = some y ∧ w.cell? ⟨b, o + 2, none⟩ = some z) (hk : w'.heap[b]? = w.heap[b]?) : w'.cell? ⟨b, o, none⟩ = some x ∧ w'.cell? ⟨b, o + 1, none⟩ = some y ∧ w'.cell? ⟨b, o + 2, none⟩ = some z := by
  have q : ∀ o, w'.cell? ⟨b, o, none⟩ = w.cell? ⟨b, o, none⟩ := fun o => World.cell?_of_block hk
  rw [q, q, q]; exact h
theorem StrR.kept {l : List ByteArray} (h : StrR P w l v) (hk : ∀ b, P b → w'.heap[b]? = w.heap[b]?) : StrR P w' l v := by
  obtain ⟨A, cap, h1, h2, h3, h4⟩ := h
  refine ⟨A, cap, h1, h2, h3, fun i x hx => ?_⟩
  obtain ⟨b, off, e1, e2, e3⟩ := h4 i x hx
  exact ⟨b, off, e1, e2, (World.cell?_of_block (a := ⟨b, off + i, none⟩) (hk b e2)).trans e3⟩
theorem StrR.wide {l : List ByteArray} (hP : ∀ b, P b → P' b) (h : StrR P w l v) : StrR P' w l v := by
  obtain ⟨A, cap, h1, h2, h3, h4⟩ := h
  refine ⟨A, cap, h1, h2, h3, fun i x hx => ?_⟩
  obtain ⟨b, off, e1, e2, e3⟩ := h4 i x hx
  exact ⟨b, off, e1, hP b e2, e3⟩
theorem EnR.kept {l : List (ByteArray × List ByteArray)} (h : EnR P w l v) (hk : ∀ b, P b → w'.heap[b]? = w.heap[b]?) : EnR P w' l v := by
  obtain ⟨A, cap, h1, h2, h3, h4⟩ := h
  refine ⟨A, cap, h1, h2, h3, fun i x hx => ?_⟩
  obtain ⟨b, off, L, e1, e2, e3, e4⟩ := h4 i x hx
  exact ⟨b, off, L, e1, e2, keep2 e3 (hk b e2), e4.kept hk⟩
theorem EnR.wide {l : List (ByteArray × List ByteArray)} (hP : ∀ b, P b → P' b) (h : EnR P w l v) : EnR P' w l v := by
  obtain ⟨A, cap, h1, h2, h3, h4⟩ := h
  refine ⟨A, cap, h1, h2, h3, fun i x hx => ?_⟩
  obtain ⟨b, off, L, e1, e2, e3, e4⟩ := h4 i x hx
  exact ⟨b, off, L, e1, hP b e2, e3, e4.wide hP⟩
theorem VaR.kept {l : List (ByteArray × ByteArray × Int)} (h : VaR P w l v) (hk : ∀ b, P b → w'.heap[b]? = w.heap[b]?) : VaR P w' l v := by
  obtain ⟨A, cap, h1, h2, h3, h4⟩ := h
  refine ⟨A, cap, h1, h2, h3, fun i x hx => ?_⟩
  obtain ⟨b, off, e1, e2, e3, e4⟩ := h4 i x hx
  exact ⟨b, off, e1, e2, keep3 e3 (hk b e2), e4⟩
theorem VaR.wide {l : List (ByteArray × ByteArray × Int)} (hP : ∀ b, P b → P' b) (h : VaR P w l v) : VaR P' w l v := by
  obtain ⟨A, cap, h1, h2, h3, h4⟩ := h
  refine ⟨A, cap, h1, h2, h3, fun i x hx => ?_⟩
  obtain ⟨b, off, e1, e2, e3, e4⟩ := h4 i x hx
  exact ⟨b, off, e1, hP b e2, e3, e4⟩
theorem PrR.kept {l : List (ByteArray × List St)} (h : PrR P n w l v) (hk : ∀ b, P b → w'.heap[b]? = w.heap[b]?) : PrR P n w' l v := by
  obtain ⟨A, cap, h1, h2, h3, h4⟩ := h
  refine ⟨A, cap, h1, h2, h3, fun i x hx => ?_⟩
  obtain ⟨b, off, L, e1, e2, e3, e4⟩ := h4 i x hx
  exact ⟨b, off, L, e1, e2, keep2 e3 (hk b e2), e4.kept hk⟩
theorem PrR.wide {l : List (ByteArray × List St)} (hP : ∀ b, P b → P' b) (h : PrR P n w l v) : PrR P' n w l v := by
  obtain ⟨A, cap, h1, h2, h3, h4⟩ := h
  refine ⟨A, cap, h1, h2, h3, fun i x hx => ?_⟩
  obtain ⟨b, off, L, e1, e2, e3, e4⟩ := h4 i x hx
  exact ⟨b, off, L, e1, hP b e2, e3, e4.wide hP⟩
theorem PrR.le {m : Nat} (hm : n ≤ m) {l : List (ByteArray × List St)} (h : PrR P n w l v) : PrR P m w l v := by
  obtain ⟨A, cap, h1, h2, h3, h4⟩ := h
  refine ⟨A, cap, h1, h2, h3, fun i x hx => ?_⟩
  obtain ⟨b, off, L, e1, e2, e3, e4⟩ := h4 i x hx
  exact ⟨b, off, L, e1, e2, e3, e4.le hm⟩
theorem StrR.slice {l : List ByteArray} (h : StrR P w l v) : ∃ A cap, v = .slice A l.length cap ∧ l.length ≤ cap ∧ l.length * 16 ≤ 140737488355328 := by
  obtain ⟨A, cap, h1, h2, h3, -⟩ := h; exact ⟨A, cap, h1, h2, h3⟩
theorem EnR.slice {l : List (ByteArray × List ByteArray)} (h : EnR P w l v) : ∃ A cap, v = .slice A l.length cap ∧ l.length ≤ cap ∧ l.length * 40 ≤ 140737488355328 := by
  obtain ⟨A, cap, h1, h2, h3, -⟩ := h; exact ⟨A, cap, h1, h2, h3⟩
theorem VaR.slice {l : List (ByteArray × ByteArray × Int)} (h : VaR P w l v) : ∃ A cap, v = .slice A l.length cap ∧ l.length ≤ cap ∧ l.length * 40 ≤ 140737488355328 := by
  obtain ⟨A, cap, h1, h2, h3, -⟩ := h; exact ⟨A, cap, h1, h2, h3⟩
theorem PrR.slice {l : List (ByteArray × List St)} (h : PrR P n w l v) : ∃ A cap, v = .slice A l.length cap ∧ l.length ≤ cap ∧ l.length * 40 ≤ 140737488355328 := by
  obtain ⟨A, cap, h1, h2, h3, -⟩ := h; exact ⟨A, cap, h1, h2, h3⟩
variable {p : Pg} {vE vV vP vM : Value}
theorem PgR.kept (h : PgR P n w p vE vV vP vM) (hk : ∀ b, P b → w'.heap[b]? = w.heap[b]?) : PgR P n w' p vE vV vP vM := ⟨h.en.kept hk, h.va.kept hk, h.pr.kept hk, h.mn.kept hk⟩
theorem PgR.wide (hP : ∀ b, P b → P' b) (h : PgR P n w p vE vV vP vM) : PgR P' n w p vE vV vP vM := ⟨h.en.wide hP, h.va.wide hP, h.pr.wide hP, h.mn.wide hP⟩
theorem PgR.below (h : PgR P n w p vE vV vP vM) (hb : Below B w w') (hP : ∀ b, P b → b < B) : PgR P n w' p vE vV vP vM := h.kept fun b q => hb.block b (hP b q)
theorem PgR.le {m : Nat} (hm : n ≤ m) (h : PgR P n w p vE vV vP vM) : PgR P m w p vE vV vP vM := ⟨h.en, h.va, h.pr.le hm, h.mn.le hm⟩
end
/-! ### The same -/
def sameVr (a b : ByteArray × ByteArray × Int) : Bool := (a.1.toList == b.1.toList) && ((a.2.1.toList == b.2.1.toList) && (a.2.2 == b.2.2))
def sameSt (a b : ByteArray) : Bool := a.toList == b.toList
def sameEn (a b : ByteArray × List ByteArray) : Bool := (a.1.toList == b.1.toList) && sameF sameSt a.2 b.2
def samePr (a b : ByteArray × List St) : Bool := (a.1.toList == b.1.toList) && sameB a.2 b.2
def samePg (p q : Pg) : Bool := sameF sameEn p.enums q.enums && (sameF sameVr p.vars q.vars && (sameF samePr p.procs q.procs && sameB p.main q.main))
theorem guardV : Tryd.prog.eqGuardType Tryd.prog.depth 69 = false := by kernel_rfl
theorem heldV : Tryd.prog.stoodInHeld 69 = false := by kernel_rfl
theorem neVr (x y x' y' : ByteArray) (k k' : Int) (w : World) : (binOp .neq 69 (.agg #[.string x, .string y, .int .i64 k]) (.agg #[.string x', .string y', .int .i64 k'])).run Tryd.prog w = .ok (.bool (!sameVr (x, y, k) (x', y', k'))) w := by
  rw [run_neq_struct]
  have : (Op.equalIn 10000 69 (.agg #[.string x, .string y, .int .i64 k]) (.agg #[.string x', .string y', .int .i64 k'])).run Tryd.prog w = .ok (sameVr (x, y, k) (x', y', k')) w := by
    rw [run_equalIn_struct w 9999 69 _ _ (by unfold Program.fieldsOf; rw [Tryd.underlying69]) heldV]
    unfold sameVr
    cases h1 : (x.toList == x'.toList) <;> cases h2 : (y.toList == y'.toList) <;> cases h3 : (k == k') <;> simp [Program.fieldsOf, Tryd.underlying69, Op.eqFields, part, go_sem, h1, h2, h3, Tryd.underlying3, Tryd.underlying9]
  rw [this]; rfl
theorem eqgV (op : BinOp) (x y : Operand) (xs ys : Array Value) (w : World) : (eqGuard op 69 x y (.agg xs) (.agg ys)).run Tryd.prog w = .ok () w := run_eqGuard_agg w op 69 x y xs ys guardV
attribute [local go_sem ↓] neVr eqgV
section
variable {W : World}
set_option maxRecDepth 100000 in
set_option maxHeartbeats 6400000 in
theorem eqStrs_any (l r : List ByteArray) (v u : Value) (P : Nat → Prop) (W : World) (hv : StrR P W l v) (hu : StrR P W r u) (hP : ∀ b, P b → b < W.heap.size) : Calls Tryd.prog 58 #[v, u] W (fun e w' => e = .returned (.bool (sameF sameSt l r)) ∧ Below W.heap.size W w') := by
  obtain ⟨A1, cap1, rfl, hc1, hl1, hat1⟩ := hv
  obtain ⟨A2, cap2, rfl, hc2, hl2, hat2⟩ := hu
  have HA1 := Lib.hid hat1
  have HA2 := Lib.hid hat2
  have hl3 : l.length ≤ 140737488355328 := by omega
  have hl4 : r.length ≤ 140737488355328 := by omega
  clear hat1 hat2 hl1 hl2
  by_cases hlen : l.length = r.length
  · have hneq : ((l.length : Int) != (r.length : Int)) = false := by rw [hlen]; simp
    obtain ⟨m, hm⟩ : ∃ m, r.length = m := ⟨_, rfl⟩
    rw [hm] at hlen hneq hl4 hc2 ⊢
    have HM1 := Lib.hid hlen
    have HM2 := Lib.hid hm
    rw [hlen] at hl3 hc1 hneq ⊢
    clear hm hlen
    go_enter Tryd.func58, Tryd.ntmps58
    go_wp2
    go_loopw [13] (fun i wr => ∃ k : Nat, i = .int .i64 (k : Int) ∧ k ≤ m ∧ Hid (sameF sameSt (l.drop k) (r.drop k) = sameF sameSt l r) ∧ Below W.heap.size W wr) (fun i _ => m - (RowKit.intOf i).toNat)
    case atStart => exact ⟨0, rfl, Nat.zero_le _, Lib.hid rfl, Below.refl _ _⟩
    case round =>
      obtain ⟨k, rfl, hk, HEq, hbw⟩ := hrel
      by_cases hlt : k < m
      · obtain ⟨x, hx⟩ : ∃ x, l[k]? = some x := ⟨l[k]'(by rw [HM1.out]; exact hlt), List.getElem?_eq_getElem _⟩
        obtain ⟨y, hy⟩ : ∃ y, r[k]? = some y := ⟨r[k]'(by rw [HM2.out]; exact hlt), List.getElem?_eq_getElem _⟩
        obtain ⟨b1, off1, rfl, hbB1, x0⟩ := HA1.out k x hx
        obtain ⟨b2, off2, rfl, hbB2, y0⟩ := HA2.out k y hy
        rw [← hbw.cell (p := ⟨b1, off1 + k, none⟩) (hP b1 hbB1)] at x0
        rw [← hbw.cell (p := ⟨b2, off2 + k, none⟩) (hP b2 hbB2)] at y0
        obtain ⟨q, hq⟩ : ∃ q, q = sameSt x y := ⟨_, rfl⟩
        have HBw := Lib.hid hbw
        have HSt : Hid (sameF sameSt (l.drop k) (r.drop k) = (q && sameF sameSt (l.drop (k + 1)) (r.drop (k + 1)))) := Lib.hid ((sameF_at _ hx hy).trans (by rw [hq]))
        unfold sameSt at hq
        clear hbw hx hy
        cases q
        · have hq2 := hq.symm
          clear hq
          go_wp2_with fail
          go_quiet (fail)
          go_wp2_with fail
          go_ret
          exact ⟨ret_bool (by rw [← HEq.out, HSt.out, Bool.false_and]), HBw.out.trans ⟨rfl, rfl, rfl, Nat.le_refl _, fun _ _ => rfl⟩⟩
        · have hq2 := hq.symm
          clear hq
          go_wp2_with fail
          go_quiet (fail)
          go_wp2_with fail
          go_roundw
          case rel => exact ⟨k + 1, by go_num, hlt, Lib.hid (by rw [← HEq.out, HSt.out, Bool.true_and]), HBw.out.trans ⟨rfl, rfl, rfl, Nat.le_refl _, fun _ _ => rfl⟩⟩
          case measure => simp [RowKit.intOf]; omega
      · have he : k = m := by omega
        subst he
        have HT : Hid (sameF sameSt l r = true) := Lib.hid (by rw [← HEq.out, List.drop_eq_nil_of_le (by rw [HM1.out]; exact Nat.le_refl _), List.drop_eq_nil_of_le (by rw [HM2.out]; exact Nat.le_refl _)]; rfl)
        go_wp2_with fail
        go_ret
        exact ⟨ret_bool HT.out.symm, hbw⟩
  · have hneq : ((l.length : Int) != (r.length : Int)) = true := by simp; omega
    have HF : Hid (sameF sameSt l r = false) := Lib.hid (sameF_len _ hlen)
    clear hlen
    go_enter Tryd.func58, Tryd.ntmps58
    go_wp2
    go_ret
    exact ⟨ret_bool HF.out.symm, Below.refl _ _⟩
set_option maxRecDepth 100000 in
set_option maxHeartbeats 6400000 in
theorem eqVars_any (l r : List (ByteArray × ByteArray × Int)) (v u : Value) (P : Nat → Prop) (W : World) (hv : VaR P W l v) (hu : VaR P W r u) (hP : ∀ b, P b → b < W.heap.size) : Calls Tryd.prog 38 #[v, u] W (fun e w' => e = .returned (.bool (sameF sameVr l r)) ∧ Below W.heap.size W w') := by
  obtain ⟨A1, cap1, rfl, hc1, hl1, hat1⟩ := hv
  obtain ⟨A2, cap2, rfl, hc2, hl2, hat2⟩ := hu
  have HA1 := Lib.hid hat1
  have HA2 := Lib.hid hat2
  have hl3 : l.length ≤ 140737488355328 := by omega
  have hl4 : r.length ≤ 140737488355328 := by omega
  clear hat1 hat2 hl1 hl2
  by_cases hlen : l.length = r.length
  · have hneq : ((l.length : Int) != (r.length : Int)) = false := by rw [hlen]; simp
    obtain ⟨m, hm⟩ : ∃ m, r.length = m := ⟨_, rfl⟩
    rw [hm] at hlen hneq hl4 hc2 ⊢
    have HM1 := Lib.hid hlen
    have HM2 := Lib.hid hm
    rw [hlen] at hl3 hc1 hneq ⊢
    clear hm hlen
    go_enter Tryd.func38, Tryd.ntmps38
    go_wp2
    go_loopw [13] (fun i wr => ∃ k : Nat, i = .int .i64 (k : Int) ∧ k ≤ m ∧ Hid (sameF sameVr (l.drop k) (r.drop k) = sameF sameVr l r) ∧ Below W.heap.size W wr) (fun i _ => m - (RowKit.intOf i).toNat)
    case atStart => exact ⟨0, rfl, Nat.zero_le _, Lib.hid rfl, Below.refl _ _⟩
    case round =>
      obtain ⟨k, rfl, hk, HEq, hbw⟩ := hrel
      by_cases hlt : k < m
      · obtain ⟨x, hx⟩ : ∃ x, l[k]? = some x := ⟨l[k]'(by rw [HM1.out]; exact hlt), List.getElem?_eq_getElem _⟩
        obtain ⟨y, hy⟩ : ∃ y, r[k]? = some y := ⟨r[k]'(by rw [HM2.out]; exact hlt), List.getElem?_eq_getElem _⟩
        obtain ⟨b1, off1, rfl, hbB1, ha1, -⟩ := HA1.out k x hx
        obtain ⟨b2, off2, rfl, hbB2, ha2, -⟩ := HA2.out k y hy
        obtain ⟨x0, x1, x2⟩ := keep3 ha1 (hbw.block b1 (hP b1 hbB1))
        obtain ⟨y0, y1, y2⟩ := keep3 ha2 (hbw.block b2 (hP b2 hbB2))
        obtain ⟨xa, xb, xc⟩ := x
        obtain ⟨ya, yb, yc⟩ := y
        obtain ⟨q, hq⟩ : ∃ q, q = sameVr (xa, xb, xc) (ya, yb, yc) := ⟨_, rfl⟩
        clear ha1 ha2
        simp only at x0 x1 x2 y0 y1 y2
        have HBw := Lib.hid hbw
        have HSt : Hid (sameF sameVr (l.drop k) (r.drop k) = (q && sameF sameVr (l.drop (k + 1)) (r.drop (k + 1)))) := Lib.hid ((sameF_at _ hx hy).trans (by rw [hq]))
        clear hbw hx hy
        cases q
        · have hq2 := hq.symm
          clear hq
          go_wp2_with fail
          go_quiet (fail)
          go_wp2_with fail
          go_ret
          exact ⟨ret_bool (by rw [← HEq.out, HSt.out, Bool.false_and]), HBw.out.trans ⟨rfl, rfl, rfl, Nat.le_refl _, fun _ _ => rfl⟩⟩
        · have hq2 := hq.symm
          clear hq
          go_wp2_with fail
          go_quiet (fail)
          go_wp2_with fail
          go_roundw
          case rel => exact ⟨k + 1, by go_num, hlt, Lib.hid (by rw [← HEq.out, HSt.out, Bool.true_and]), HBw.out.trans ⟨rfl, rfl, rfl, Nat.le_refl _, fun _ _ => rfl⟩⟩
          case measure => simp [RowKit.intOf]; omega
      · have he : k = m := by omega
        subst he
        have HT : Hid (sameF sameVr l r = true) := Lib.hid (by rw [← HEq.out, List.drop_eq_nil_of_le (by rw [HM1.out]; exact Nat.le_refl _), List.drop_eq_nil_of_le (by rw [HM2.out]; exact Nat.le_refl _)]; rfl)
        go_wp2_with fail
        go_ret
        exact ⟨ret_bool HT.out.symm, hbw⟩
  · have hneq : ((l.length : Int) != (r.length : Int)) = true := by simp; omega
    have HF : Hid (sameF sameVr l r = false) := Lib.hid (sameF_len _ hlen)
    clear hlen
    go_enter Tryd.func38, Tryd.ntmps38
    go_wp2
    go_ret
    exact ⟨ret_bool HF.out.symm, Below.refl _ _⟩
end
end Go.Proofs.YtklfcjimgnnlfaaDoor
