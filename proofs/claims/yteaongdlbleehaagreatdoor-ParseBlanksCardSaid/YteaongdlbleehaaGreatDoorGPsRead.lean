/- Put together of: PsLexM, PsReadM, PsReadT. -/
import Derived.Test.YteaongdlbleehaaGreatDoorPsBase
import Derived.Test.YteaongdlbleehaaGreatDoorGPsRows
import Derived.Test.YteaongdlbleehaaGreatDoorLxLex
/- The parse layer: the tokens of a text are few and small. -/
namespace Go.Proofs.YteaongdlbleehaaGreatDoor
theorem lexF_small (f : Nat) : ∀ (l : Bs) (p : Nat) (acc : List Tok), p + l.length ≤ 4096 → TokB acc → acc.length ≤ p → TokB (lexF f l p acc).1 ∧ (lexF f l p acc).1.length ≤ 4096 ∧ (lexF f l p acc).2.1 ≤ 4096 := by
  induction f with
  | zero => intro l p acc hp ha hl; exact ⟨ha, by show acc.length ≤ 4096; omega, by show p ≤ 4096; omega⟩
  | succ f ih =>
    intro l p acc hp ha hl
    cases l with
    | nil => exact ⟨ha, by show acc.length ≤ 4096; omega, by show p ≤ 4096; omega⟩
    | cons c r =>
      have h1 := flen_pos c r
      have h2 := flen_le c r
      simp only [List.length_cons] at hp
      have hd : p + flen (c :: r) + ((c :: r).drop (flen (c :: r))).length ≤ 4096 := by rw [List.length_drop, List.length_cons]; omega
      simp only [lexF]
      split
      · exact ih _ _ _ hd ha (by omega)
      · split
        · rename_i k v hk
          have hkv := tokAt_kind (c := c) (r := r) hk
          refine ih _ _ _ hd (fun t ht => ?_) (by simp only [List.length_append, List.length_cons, List.length_nil]; omega)
          rcases List.mem_append.1 ht with ht | ht
          · exact ha t ht
          · simp only [List.mem_singleton] at ht
            subst ht
            exact ⟨by show p ≤ 4096; omega, hkv.2, hkv.1⟩
        · exact ⟨(fun t ht => by cases ht), Nat.zero_le _, by show p ≤ 4096; omega⟩
theorem lexS_small (l : Bs) : TokB (lexS l).1 ∧ (lexS l).1.length ≤ 4096 ∧ (lexS l).2.1 ≤ 4096 ∧ ((lexS l).2.2 = 0 → l.length ≤ 4096) := by
  unfold lexS
  split
  · exact ⟨(fun t ht => by cases ht), Nat.zero_le _, Nat.zero_le _, fun h => absurd h (by decide)⟩
  · rename_i h
    have := lexF_small (l.length + 1) l 0 [] (by omega) (fun t ht => by cases ht) (Nat.le_refl _)
    exact ⟨this.1, this.2.1, this.2.2, fun _ => by omega⟩
end Go.Proofs.YteaongdlbleehaaGreatDoor

/- The parse layer: a parser as it begins; what read tells. -/
namespace Go.Proofs.YteaongdlbleehaaGreatDoor
open Go.RowKit
section
variable {B b len k n : Nat} {M : Value} {s : PS} {w : World}
theorem tok_row {w : World} {base : Nat} {T : TypeId} {v : Value} {ts : List Tok} (h : w.ownsRow base T 4 v ts.length (tcells ts)) : ∃ A c, v = .slice A ts.length c ∧ ts.length ≤ c ∧ TokR w w.heap.size A ts := by
  have h2 := h
  rcases h.2 with ⟨rfl, h0⟩ | ⟨g, cap, cur, rfl, hbg, hg, hc, hm, hcs, htk⟩
  · have e : ts = [] := List.length_eq_zero_iff.1 h0
    subst e
    exact ⟨none, 0, rfl, Nat.le_refl _, TokR.nil _ _ _⟩
  · refine ⟨some ⟨g, 0, none⟩, cap, rfl, hc, fun _ => ⟨g, 0, rfl, (Array.getElem?_eq_some_iff.1 hg).1, fun j u hu => ?_⟩⟩
    have hj := (List.getElem?_eq_some_iff.1 hu).1
    rw [tcells_len] at hj
    rw [Nat.zero_add, h2.cellAt j hj]
    exact hu
/-- The parser as it begins. -/
theorem par_new {w2 W4 : World} {ts : List Tok} {A : Option Addr} {c len : Nat} (hw : W4 = (w2.alloc (.map esR 7)).alloc (.cells #[.slice A ts.length c, .int .i64 len, .int .i64 0, .int .i64 0, .int .i64 0, .int .i64 0, .map (some w2.heap.size)] 105)) (hl : len ≤ 4096) (ht : TokB ts) (hn : ts.length ≤ 4096) (hc : ts.length ≤ c) (hr : TokR w2 w2.heap.size A ts) :
    Par (w2.heap.size + 1) (w2.heap.size + 1) len (.map (some w2.heap.size)) 0 0 ⟨ts, 0, 0⟩ W4 ∧ Below w2.heap.size w2 W4 ∧ w2.heap.size + 1 < W4.heap.size := by
  have hs : (w2.alloc (.map esR 7)).heap.size = w2.heap.size + 1 := World.size_alloc _ _
  have hb : Below w2.heap.size w2 (w2.alloc (.map esR 7)) := (Below.refl _ _).alloc (Nat.le_refl _) _
  have hb2 : Below w2.heap.size w2 W4 := by rw [hw]; exact hb.alloc (by rw [hs]; omega) _
  have hk : Blk W4 (w2.heap.size + 1) 105 #[.slice A ts.length c, .int .i64 len, .int .i64 0, .int .i64 0, .int .i64 0, .int .i64 0, .map (some w2.heap.size)] := by rw [hw, ← hs]; exact Blk.new _ _ _
  refine ⟨⟨Nat.le_refl _, hl, ht, Nat.zero_le _, fun q => absurd rfl q, ⟨w2.heap.size, rfl, Nat.lt_succ_self _, ?_⟩, A, c, hk, hc, hn, ?_⟩, hb2, hk.lt⟩
  · rw [hw]
    exact (Below.heap_alloc _ _ _ (by rw [hs]; omega)).trans (MapKept.heap_alloc w2 _).1
  · intro hne
    obtain ⟨g, off, e, hg, hcell⟩ := hr hne
    exact ⟨g, off, e, by omega, fun j u hu => (hb2.cell (p := ⟨g, off + j, none⟩) hg).trans (hcell j u hu)⟩
/-- What a text's expression is told as. -/
def RetRE (l : Bs) (W : World) (e : Ending) (w' : World) : Prop :=
  ∃ n A m c, e = .returned (.tuple #[exV (exprT l).1.op (exprT l).1.nm (exprT l).1.n (.slice A m c) (exprT l).1.a, .int .i64 ((exprT l).2.1 : Int), .int .i64 ((exprT l).2.2 : Int)]) ∧ Below W.heap.size W w' ∧ In64 (exprT l).1.n ∧ In64 (exprT l).1.a ∧ ExR (fun q => W.heap.size ≤ q ∧ q < w'.heap.size) n w' (exprT l).1.l (.slice A m c)
end
end Go.Proofs.YteaongdlbleehaaGreatDoor

/- The parse layer: what a text is read as, step by step. -/
namespace Go.Proofs.YteaongdlbleehaaGreatDoor
open Go.RowKit
/-- What a text's program is told as. -/
def RetRP (l : Bs) (W : World) (e : Ending) (w' : World) : Prop :=
  ∃ n vE vV vP vM, e = .returned (.tuple #[pgV vE vV vP vM, .int .i64 ((parseT l).2.1 : Int), .int .i64 ((parseT l).2.2 : Int)]) ∧ Below W.heap.size W w' ∧ PgR (fun q => W.heap.size ≤ q ∧ q < w'.heap.size) n w' (parseT l).1 vE vV vP vM
theorem pgr_nil {P : Nat → Prop} {w : World} : PgR P 1 w pg0 (.slice none 0 0) (.slice none 0 0) (.slice none 0 0) (.slice none 0 0) := by
  refine ⟨⟨none, 0, rfl, Nat.le_refl _, by simp [pg0], fun i x h => by simp [pg0] at h⟩, ⟨none, 0, rfl, Nat.le_refl _, by simp [pg0], fun i x h => by simp [pg0] at h⟩, ⟨none, 0, rfl, Nat.le_refl _, by simp [pg0], fun i x h => by simp [pg0] at h⟩, str_nil⟩
theorem str_form {P : Nat → Prop} {n : Nat} {w : World} {l : List St} {v : Value} (h : StR P n w l v) : ∃ A m c, v = .slice A m c := by
  cases n with
  | zero => exact h.elim
  | succ n => obtain ⟨A, c, e, -⟩ := h; exact ⟨A, _, c, e⟩
theorem blk_drew {w : World} {g : Nat} {t : TypeId} {cs : Array Value} (h : Blk w g t cs) : Blk w.drew g t cs := h
section
variable {α : Type} {l : Bs} {ts : List Tok} {at' no : Nat} {whole : Nat → PS → PS × α} {r : PS × α} {rr : PS}
theorem readT_fail (whole : Nat → PS → PS × α) (none_ : α) (hlx : lexS l = (ts, at', no)) (h : no ≠ 0) : readT whole none_ l = (none_, at', no) := by
  unfold readT
  rw [hlx]
  dsimp only
  rw [if_pos h]
theorem readT_go (none_ : α) (hlx : lexS l = (ts, at', 0)) (hr : r = whole l.length ⟨ts, 0, 0⟩) (hrr : rr = endP l.length r) : readT whole none_ l = if rr.no ≠ 0 then (none_, rr.at_, rr.no) else (r.2, l.length, 0) := by
  unfold readT
  rw [hlx]
  dsimp only
  rw [if_neg (by decide), ← hr, ← hrr]
end
end Go.Proofs.YteaongdlbleehaaGreatDoor
