/- The parse layer: what a statement's first token leads to. -/
import Derived.Test.YteaongdlbleehaaGreatDoorGPsSt
namespace Go.Proofs.YteaongdlbleehaaGreatDoor
open Go.RowKit
section
variable {B b len k n : Nat} {M : Value} {s : PS} {w : World}
/-- The name that a statement begins with. -/
def nmF (t : Tok) : Bs := if isNm t then t.text else []
theorem key_nm {t : Tok} (h : keyF t ≠ tAName) : nmF t = [] := by
  unfold keyF at h
  unfold nmF
  split at h
  · exact absurd rfl h
  · rename_i e; simp [e]
theorem rule_cases (k : Bs) : (k = tAName ∧ ruleI k = some (0, .func (.func 80) #[] #[])) ∨ (k = sIf ∧ ruleI k = some (1, .func (.func 81) #[] #[])) ∨ (k = sWhile ∧ ruleI k = some (2, .func (.func 82) #[] #[])) ∨ (k = sAssert ∧ ruleI k = some (3, .func (.func 83) #[] #[])) ∨ (k = sAssume ∧ ruleI k = some (4, .func (.func 83) #[] #[])) ∨ (k = sCall ∧ ruleI k = some (5, .func (.func 84) #[] #[])) ∨ (k = sSkip ∧ ruleI k = some (6, .func (.func 85) #[] #[])) ∨ (ruleI k = none ∧ (k == tAName) = false ∧ (k == sIf) = false ∧ (k == sWhile) = false ∧ (k == sAssert) = false ∧ (k == sAssume) = false ∧ (k == sCall) = false ∧ (k == sSkip) = false) := by
  by_cases h0 : k = tAName
  · exact Or.inl ⟨h0, by rw [h0]; rfl⟩
  by_cases h1 : k = sIf
  · exact Or.inr <| Or.inl ⟨h1, by rw [h1]; rfl⟩
  by_cases h2 : k = sWhile
  · exact Or.inr <| Or.inr <| Or.inl ⟨h2, by rw [h2]; rfl⟩
  by_cases h3 : k = sAssert
  · exact Or.inr <| Or.inr <| Or.inr <| Or.inl ⟨h3, by rw [h3]; rfl⟩
  by_cases h4 : k = sAssume
  · exact Or.inr <| Or.inr <| Or.inr <| Or.inr <| Or.inl ⟨h4, by rw [h4]; rfl⟩
  by_cases h5 : k = sCall
  · exact Or.inr <| Or.inr <| Or.inr <| Or.inr <| Or.inr <| Or.inl ⟨h5, by rw [h5]; rfl⟩
  by_cases h6 : k = sSkip
  · exact Or.inr <| Or.inr <| Or.inr <| Or.inr <| Or.inr <| Or.inr <| Or.inl ⟨h6, by rw [h6]; rfl⟩
  refine Or.inr <| Or.inr <| Or.inr <| Or.inr <| Or.inr <| Or.inr <| Or.inr ⟨?_, beq_eq_false_iff_ne.2 h0, beq_eq_false_iff_ne.2 h1, beq_eq_false_iff_ne.2 h2, beq_eq_false_iff_ne.2 h3, beq_eq_false_iff_ne.2 h4, beq_eq_false_iff_ne.2 h5, beq_eq_false_iff_ne.2 h6⟩
  unfold ruleI
  simp [h0, h1, h2, h3, h4, h5, h6]
set_option maxHeartbeats 6400000 in
set_option maxRecDepth 100000 in
/-- What a statement's first token leads to. -/
theorem stmt_rule {blk : PS → PS × List St} (hblk : BlkC B b len M k blk) (hbl : ∀ s, (blk s).1.ts.length ≤ s.ts.length) (hk : KOK k s) (ha : In64 ((nxt len s).at_ : Int)) :
    (ruleI (keyF (nxt len s)) = none ∧ stmtS len blk s = (failF len 130 s, st0)) ∨ ∃ i f, f ∈ [80, 81, 82, 83, 84, 85] ∧ ruleI (keyF (nxt len s)) = some (i, .func (.func f) #[] #[]) ∧ (∀ w, Par B b len M k 0 (takeF s) w → Calls Tryz.prog f #[.pointer (some ⟨b, 0, none⟩), stV (bA (keyF (nxt len s))) (bA (nmF (nxt len s))) (.slice none 0 0) (.slice none 0 0) (.slice none 0 0) ((nxt len s).at_ : Int)] w (RetS B b len M k (stmtS len blk s) w)) := by
  have hkt : KOK k (takeF s) := kok_len hk (by rw [take_len]; omega)
  have hke : KOK k (exE len (takeF s)).1 := kok_len hkt (exF_len _ _ _ _)
  rcases rule_cases (keyF (nxt len s)) with ⟨h, hr⟩ | ⟨h, hr⟩ | ⟨h, hr⟩ | ⟨h, hr⟩ | ⟨h, hr⟩ | ⟨h, hr⟩ | ⟨h, hr⟩ | ⟨hr, h0, h1, h2, h3, h4, h5, h6⟩
  · have e : stmtS len blk s = changeS len (nmF (nxt len s)) ((nxt len s).at_ : Int) (takeF s) := by unfold stmtS; simp only [h]; rfl
    refine Or.inr ⟨0, _, by simp, hr, fun w hw => ?_⟩
    rw [e, h]
    exact change_any _ _ _ ha hw
  · have e : stmtS len blk s = choiceS len blk sIf ((nxt len s).at_ : Int) (takeF s) := by unfold stmtS; simp only [h]; rfl
    refine Or.inr ⟨1, _, by simp, hr, fun w hw => ?_⟩
    rw [e, h, key_nm (by rw [h]; decide)]
    exact choice_any sIf _ ha hblk hbl hkt hw
  · have e : stmtS len blk s = loopS len blk sWhile ((nxt len s).at_ : Int) (takeF s) := by unfold stmtS; simp only [h]; rfl
    refine Or.inr ⟨2, _, by simp, hr, fun w hw => ?_⟩
    rw [e, h, key_nm (by rw [h]; decide)]
    exact loop_any sWhile _ ha hblk hke hw
  · have e : stmtS len blk s = claimS len sAssert ((nxt len s).at_ : Int) (takeF s) := by unfold stmtS; simp only [h]; rfl
    refine Or.inr ⟨3, _, by simp, hr, fun w hw => ?_⟩
    rw [e, h, key_nm (by rw [h]; decide)]
    exact claim_any sAssert _ ha hw
  · have e : stmtS len blk s = claimS len sAssume ((nxt len s).at_ : Int) (takeF s) := by unfold stmtS; simp only [h]; rfl
    refine Or.inr ⟨4, _, by simp, hr, fun w hw => ?_⟩
    rw [e, h, key_nm (by rw [h]; decide)]
    exact claim_any sAssume _ ha hw
  · have e : stmtS len blk s = callS len sCall ((nxt len s).at_ : Int) (takeF s) := by unfold stmtS; simp only [h]; rfl
    refine Or.inr ⟨5, _, by simp, hr, fun w hw => ?_⟩
    rw [e, h, key_nm (by rw [h]; decide)]
    exact call_any sCall _ ha hw
  · have e : stmtS len blk s = (expF len [59] (takeF s), .mk (bA sSkip) ⟨#[]⟩ [] [] [] ((nxt len s).at_ : Int)) := by unfold stmtS; simp only [h]; rfl
    refine Or.inr ⟨6, _, by simp, hr, fun w hw => ?_⟩
    rw [e, h, key_nm (by rw [h]; decide)]
    exact (end_any (bA sSkip) (bA []) none none none 0 0 0 0 0 0 _ hw).mono fun e w' hq => ⟨1, none, 0, 0, none, 0, 0, none, 0, 0, hq.1, hq.2.1, hq.2.2, ha, exr_nil, str_nil, str_nil⟩
  · refine Or.inl ⟨hr, ?_⟩
    unfold stmtS
    simp only [h0, h1, h2, h3, h4, h5, h6]
    rfl
/-- While stmt goes: its result's box. -/
structure SS (B b len : Nat) (M : Value) (k : Nat) (w : World) (s : PS) (W : World) : Prop where
  par : Par B b len M k 0 s W
  pd : Pd b w W
  r : Blk W w.heap.size 116 z6
  hb : b < w.heap.size
theorem Par.map_ {d g : Nat} (h : Par B b len (.map (some g)) k d s w) : w.heap[g]? = some (.map esR 7) := by
  obtain ⟨g', e, -, hh⟩ := h.mp
  injection e with e
  injection e with e
  rw [e]; exact hh
theorem SS.new (h : Par B b len M k 0 s w) : SS B b len M k w s (w.alloc (.cells z6 116)) := ⟨h.alloc _, (Pd.refl b w).alloc _, Blk.new w _ _, h.lt⟩
theorem SS.step {s' : PS} {W W' : World} (h : SS B b len M k w s W) (hp : Par B b len M k 0 s' W') (hd : Pd b W W') : SS B b len M k w s' W' :=
  ⟨hp, h.pd.trans hd, hd.blk h.r (Nat.ne_of_gt h.hb), h.hb⟩
theorem SS.below {W W' : World} (h : SS B b len M k w s W) (hb : Below W.heap.size W W') : SS B b len M k w s W' := h.step (h.par.below hb) (Pd.of_below hb b)
theorem SS.far {W : World} (h : SS B b len M k w s W) {p : Addr} (hp : w.heap.size < p.block) (u : Value) : SS B b len M k w s (W.setCell p u) :=
  ⟨h.par.far (by have := h.hb; omega) (by have := h.hb; have := h.par.lo; omega) _, h.pd.fresh (by omega) _, h.r.far (by omega) _, h.hb⟩
theorem SS.fin {W : World} (h : SS B b len M k w s W) (a c e f x i : Value) : Par B b len M k 0 s (put6 W w.heap.size a c e f x i) ∧ Pd b w (put6 W w.heap.size a c e f x i) ∧ Blk (put6 W w.heap.size a c e f x i) w.heap.size 116 #[a, c, e, f, x, i] := by
  have hb : b ≠ w.heap.size := Nat.ne_of_lt h.hb
  have hB : B ≤ w.heap.size := Nat.le_trans h.par.lo (Nat.le_of_lt h.hb)
  have hw : w.heap.size ≤ w.heap.size := Nat.le_refl _
  exact ⟨(((((h.par.far (p := ⟨w.heap.size, 0, none⟩) hb hB _).far (p := ⟨w.heap.size, 1, none⟩) hb hB _).far (p := ⟨w.heap.size, 2, none⟩) hb hB _).far (p := ⟨w.heap.size, 3, none⟩) hb hB _).far (p := ⟨w.heap.size, 4, none⟩) hb hB _).far (p := ⟨w.heap.size, 5, none⟩) hb hB _,
    (((((h.pd.fresh (p := ⟨w.heap.size, 0, none⟩) hw _).fresh (p := ⟨w.heap.size, 1, none⟩) hw _).fresh (p := ⟨w.heap.size, 2, none⟩) hw _).fresh (p := ⟨w.heap.size, 3, none⟩) hw _).fresh (p := ⟨w.heap.size, 4, none⟩) hw _).fresh (p := ⟨w.heap.size, 5, none⟩) hw _,
    (((((h.r.set_ 0 _).set_ 1 _).set_ 2 _).set_ 3 _).set_ 4 _).set_ 5 _⟩
theorem ExR.fin0 {W1 W : World} {l : List Ex} {v : Value} (h : ExR (fun q => W1.heap.size ≤ q ∧ q < W.heap.size) n W l v) (hw : w.heap.size < W1.heap.size) (a c e f x i : Value) : ExR (fun q => w.heap.size ≤ q ∧ q < (put6 W w.heap.size a c e f x i).heap.size) n (put6 W w.heap.size a c e f x i) l v := by
  have F := six_kept (w := W) (g := w.heap.size) a c e f x i
  exact (h.kept fun q hq => F.1 q (by have := hq.1; omega)).wide fun q hq => ⟨by have := hq.1; omega, by rw [F.2]; exact hq.2⟩
theorem StR.fin0 {W1 W : World} {l : List St} {v : Value} (h : StR (fun q => W1.heap.size ≤ q ∧ q < W.heap.size) n W l v) (hw : w.heap.size < W1.heap.size) (a c e f x i : Value) : StR (fun q => w.heap.size ≤ q ∧ q < (put6 W w.heap.size a c e f x i).heap.size) n (put6 W w.heap.size a c e f x i) l v := by
  have F := six_kept (w := W) (g := w.heap.size) a c e f x i
  exact (h.kept fun q hq => F.1 q (by have := hq.1; omega)).wide fun q hq => ⟨by have := hq.1; omega, by rw [F.2]; exact hq.2⟩
end
end Go.Proofs.YteaongdlbleehaaGreatDoor
