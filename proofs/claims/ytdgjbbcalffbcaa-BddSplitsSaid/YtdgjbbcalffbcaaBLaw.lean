/- What the laws' walks share. -/
import Derived.Test.YtdgjbbcalffbcaaBRunWalk
namespace Go.Proofs.Ytdgjbbcalffbcaa
open Go.RowKit

section
variable {w w1 wr : World} {own own' : Nat → Prop} {m lim i full : Nat} {L0 L : List Nd} {f : Nat → Opn} {rl : List Int} {tl : List Value} {Fl : List (Nat → Bool)} {vl vt : Value}
theorem went_low (hw : ∀ i, own i → w.heap.size ≤ i) (hb : Below w.heap.size w w1) (q : Went own w1 own' wr) : Below w.heap.size w wr := hb.trans (q.1.below hb.size hw)
theorem ops_far {A : Option Addr} {ml : Nat} (hw : ∀ i, own i → w.heap.size ≤ i) (hO : Ops w A ml f) (h0 : 0 < ml) : ∀ b off, A = some ⟨b, off, none⟩ → ¬ own b := fun b off e hi => by
  obtain ⟨b', off', rfl, hlt, -⟩ := hO h0
  injection e with e
  injection e with e1 e2
  subst e1
  have := hw _ hi
  omega
/-- Where nothing is too much. -/
theorem few_all {N : Nat} (h : RunC lim [] L f i full rl Fl) (hv : ∀ j, j < i → (f j).v < (N : Int)) : L.length ≤ i * (2 ^ N - 1) := by
  have h1 := h.vars N (fun k x hk => by simp at hk) hv
  have h2 := h.few N
  rw [lowN_all h1] at h2
  simpa [lowN] using h2
theorem none_full (h : RunC 65536 [] L f i full rl Fl) (hi : i ≤ 20) (hv : ∀ j, j < i → (f j).v < 6) : full = 0 := by
  rcases Nat.eq_zero_or_pos full with h0 | h0
  · exact h0
  · have h1 := few_all (N := 6) h hv
    have h2 := h.fulls.2 h0
    have : i * (2 ^ 6 - 1) ≤ 20 * 63 := Nat.mul_le_mul hi (by decide)
    omega
theorem RunI.form (h : RunI w1 own m lim L0 f i full rl tl Fl L own' vl vt wr) : ∃ gl cl gt ct, vl = .slice (some ⟨gl, 0, none⟩) rl.length cl ∧ vt = .slice (some ⟨gt, 0, none⟩) rl.length ct := by
  have h1 := h.plain.same
  have h2 := h.tabs.1
  have h3 := h.plain.many
  obtain ⟨Al, cl, rfl⟩ := own_form h.mem.rowL (by omega)
  obtain ⟨At, ct, rfl⟩ := own_form h.mem.rowT (by omega)
  obtain ⟨gl, rfl, -⟩ := row_at h.mem.rowL (by omega)
  obtain ⟨gt, rfl, -⟩ := row_at h.mem.rowT (by omega)
  exact ⟨gl, cl, gt, ct, rfl, by rw [show tl.length = rl.length by omega]⟩
/-- The j-th of both rows. -/
theorem RunI.at_ {gl cl gt ct : Nat} (h : RunI w1 own m lim L0 f i full rl tl Fl L own' (.slice (some ⟨gl, 0, none⟩) rl.length cl) (.slice (some ⟨gt, 0, none⟩) rl.length ct) wr) {j : Nat} (hj : j < rl.length) : ∃ (r : Int) (F : Nat → Bool) (g c : Nat), rl[j]? = some r ∧ Fl[j]? = some F ∧ Tells L F r ∧ Tab wr (.slice (some ⟨g, 0, none⟩) 4096 c) F ∧ (gl < wr.heap.size ∧ gt < wr.heap.size) ∧ wr.cell? ⟨gl, j, none⟩ = some (.int .i64 r) ∧ wr.cell? ⟨gt, j, none⟩ = some (.slice (some ⟨g, 0, none⟩) 4096 c) ∧ (¬ own' gl ∧ ¬ own' gt) ∧ ¬ own' g := by
  have h1 := h.plain.same
  have h2 := h.tabs.1
  have e1 : rl[j]? = some rl[j] := List.getElem?_eq_getElem hj
  have e2 : tl[j]? = some tl[j] := List.getElem?_eq_getElem (by omega)
  have e3 : Fl[j]? = some Fl[j] := List.getElem?_eq_getElem (by omega)
  have ht := h.tabs.2 j _ _ e2 e3
  have hgl := (h.mem.rowL.lt gl rfl).2
  have hgt := (h.mem.rowT.lt gt rfl).2
  obtain ⟨g, c, e, hx⟩ := ht
  have hf := (h.mem.farV _ (List.mem_of_getElem? e2) g (by rw [e]; rfl)).1
  refine ⟨rl[j], Fl[j], g, c, e1, e3, h.plain.tells j _ _ e1 e3, ⟨g, c, rfl, hx⟩, ⟨hgl, hgt⟩, ?_, ?_, ⟨h.mem.farL gl rfl, h.mem.farT gt rfl⟩, hf⟩
  · rw [h.mem.rowL.cellAt j (by omega), List.getElem?_map, e1]; rfl
  · have hr := h.mem.rowT
    rw [show tl.length = rl.length by omega] at hr
    rw [hr.cellAt j (by omega), e2, e]
theorem RunI.moveS (h : RunI w1 own m lim L0 f i full rl tl Fl L own' vl vt wr) {own2 : Nat → Prop} {w2 : World} (q : Went own' wr own2 w2) (hM : Mg w2 own2 m lim L) : RunI w1 own m lim L0 f i full rl tl Fl L own2 vl vt w2 := by
  obtain ⟨a, b⟩ := h.moved q hM (Below.refl _ _)
  exact ⟨a, h.plain, b⟩
theorem RunI.len2 (h : RunI w1 own m lim L0 f i full rl tl Fl L own' vl vt wr) : tl.length = rl.length ∧ 2 ≤ rl.length ∧ rl.length ≤ 2 + i := by
  have h1 := h.plain.same
  have h2 := h.tabs.1
  have h3 := h.plain.many
  omega
end
theorem run_law {w w1 : World} {own : Nat → Prop} {m lim : Nat} {f : Nat → Opn} {As : Option Addr} {ml cs : Nat} (hM : Mg w1 own m lim []) (hb : Below w.heap.size w w1) (hw : ∀ i, own i → w.heap.size ≤ i) (hO : Ops w As ml f) (hml : ml ≤ 20) (hl : lim ≤ 65536 := by omega) :
    Calls Try.prog 12 #[.pointer (some ⟨m, 0, none⟩), .slice As ml cs] w1 (RetRun w1 own m lim [] f ml) :=
  run_any hM hl (hO.below hb) (fun h0 => ops_far hw hO h0) hml
theorem went_two {w w1 : World} {own own1 : Nat → Prop} (q : Went own w own1 w1) {a b j k : Nat} {x y : Option Value} (hn : ¬ own a ∧ ¬ own b) (h : (a < w.heap.size ∧ b < w.heap.size) ∧ w.cell? ⟨a, j, none⟩ = x ∧ w.cell? ⟨b, k, none⟩ = y) : (a < w1.heap.size ∧ b < w1.heap.size) ∧ w1.cell? ⟨a, j, none⟩ = x ∧ w1.cell? ⟨b, k, none⟩ = y :=
  ⟨⟨Nat.lt_of_lt_of_le h.1.1 q.size, Nat.lt_of_lt_of_le h.1.2 q.size⟩, (q.cell h.1.1 hn.1).trans h.2.1, (q.cell h.1.2 hn.2).trans h.2.2⟩
end Go.Proofs.Ytdgjbbcalffbcaa
