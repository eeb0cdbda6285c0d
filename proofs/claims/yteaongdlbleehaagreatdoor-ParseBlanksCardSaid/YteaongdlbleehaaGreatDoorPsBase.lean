/- The parse layer: a parser in memory. -/
import Derived.Test.YteaongdlbleehaaGreatDoorPsRules
import Derived.Test.YteaongdlbleehaaGreatDoorLBlk
import Derived.Test.YteaongdlbleehaaGreatDoorGTrNum
import Derived.Test.YteaongdlbleehaaGreatDoorLxLexMath
import Derived.Lib.Hide
import Derived.Deep.Draws
namespace Go.Proofs.YteaongdlbleehaaGreatDoor
open Go.RowKit
/-- A row of tokens, read from an address on, all of it below block B. -/
def TokR (w : World) (B : Nat) (A : Option Addr) (l : List Tok) : Prop :=
  l ≠ [] → ∃ g off, A = some ⟨g, off, none⟩ ∧ g < B ∧ ∀ j u, (tcells l)[j]? = some u → w.cell? ⟨g, off + j, none⟩ = some u
/-- What a token's numbers are at most. -/
def TokB (l : List Tok) : Prop := ∀ t ∈ l, t.at_ ≤ 4096 ∧ t.n ≤ 1152921504606846976 ∧ t.kind ≤ 2
/-- Only block b, and new ones, are other than they were. -/
structure Pd (b : Nat) (w w' : World) : Prop where
  os : w'.os = w.os
  tape : w'.tape = w.tape
  output : w'.output = w.output
  size : w.heap.size ≤ w'.heap.size
  block : ∀ i, i < w.heap.size → i ≠ b → w'.heap[i]? = w.heap[i]?
section
variable {w w' w1 w2 : World} {B b g : Nat} {A : Option Addr} {l : List Tok}
theorem TokR.keep (h : TokR w B A l) (hk : ∀ p : Addr, p.block < B → w'.cell? p = w.cell? p) : TokR w' B A l := fun hn => by
  obtain ⟨g, off, e, hb, hc⟩ := h hn
  exact ⟨g, off, e, hb, fun j u hu => (hk ⟨g, off + j, none⟩ hb).trans (hc j u hu)⟩
theorem TokR.nil (w : World) (B : Nat) (A : Option Addr) : TokR w B A [] := fun h => absurd rfl h
theorem tcells_cons (t : Tok) (l : List Tok) : tcells (t :: l) = [.int .i64 t.kind, .string ⟨t.text.toArray⟩, .int .i64 t.n, .int .i64 t.at_] ++ tcells l := rfl
/-- Behind the first one. -/
theorem TokR.tail {t : Tok} {g off : Nat} (h : TokR w B (some ⟨g, off, none⟩) (t :: l)) : TokR w B (some ⟨g, off + 4, none⟩) l := fun _ => by
  obtain ⟨g', off', e, hb, hcell⟩ := h (by simp)
  injection e with e
  injection e with e1 e2
  subst e1 e2
  refine ⟨g, off + 4, rfl, hb, fun j u hu => ?_⟩
  rw [Nat.add_assoc]
  refine hcell (4 + j) u ?_
  rw [tcells_cons, List.getElem?_append_right (by simp)]
  simpa using hu
theorem TokR.head {t : Tok} (h : TokR w B A (t :: l)) : ∃ g off, A = some ⟨g, off, none⟩ ∧ g < B ∧ w.cell? ⟨g, off, none⟩ = some (.int .i64 t.kind) ∧ w.cell? ⟨g, off + 1, none⟩ = some (.string ⟨t.text.toArray⟩) ∧ w.cell? ⟨g, off + 2, none⟩ = some (.int .i64 t.n) ∧ w.cell? ⟨g, off + 3, none⟩ = some (.int .i64 t.at_) := by
  obtain ⟨g, off, e, hb, hc⟩ := h (by simp)
  exact ⟨g, off, e, hb, hc 0 _ rfl, hc 1 _ rfl, hc 2 _ rfl, hc 3 _ rfl⟩
theorem Pd.refl (b : Nat) (w : World) : Pd b w w := ⟨rfl, rfl, rfl, Nat.le_refl _, fun _ _ _ => rfl⟩
theorem Pd.trans (h : Pd b w w1) (k : Pd b w1 w2) : Pd b w w2 :=
  ⟨k.os.trans h.os, k.tape.trans h.tape, k.output.trans h.output, Nat.le_trans h.size k.size, fun i hi hb => (k.block i (Nat.lt_of_lt_of_le hi h.size) hb).trans (h.block i hi hb)⟩
theorem Pd.of_below (h : Below w.heap.size w w1) (b : Nat) : Pd b w w1 := ⟨h.os, h.tape, h.output, h.size, fun i hi _ => h.block i hi⟩
theorem Pd.then_ (h : Pd b w w1) (k : Below w1.heap.size w1 w2) : Pd b w w2 := h.trans (Pd.of_below k b)
theorem Pd.alloc (h : Pd b w w1) (o : Obj) : Pd b w (w1.alloc o) := h.then_ ((Below.refl _ _).alloc (Nat.le_refl _) o)
theorem Pd.drew (h : Pd b w w1) : Pd b w w1.drew := h.then_ (Below.refl _ _).drew
theorem Pd.drewN (h : Pd b w w1) (n : Nat) : Pd b w (w1.drewN n) := ⟨h.os, h.tape, h.output, h.size, h.block⟩
theorem Pd.setCell (h : Pd b w w1) {p : Addr} (hp : p.block = b) (u : Value) : Pd b w (w1.setCell p u) :=
  h.trans ⟨rfl, rfl, rfl, by simp [World.setCell], fun i _ hb => Below.heap_setCell _ _ _ _ (by rw [hp]; exact hb)⟩
theorem Pd.below (h : Pd b w w1) (hB : B ≤ b) (hw : b < w.heap.size) : Below B w w1 := ⟨h.os, h.tape, h.output, h.size, fun i hi => h.block i (by omega) (by omega)⟩
theorem Pd.blk {t : TypeId} {cs : Array Value} (h : Pd b w w1) (hb : Blk w g t cs) (hn : g ≠ b) : Blk w1 g t cs := (h.block g hb.lt hn).trans hb
/-- A parser in block b: its tokens lie below B; len is the text's length; M its rules; so many blocks and signs it stands within. -/
structure Par (B b len : Nat) (M : Value) (k d : Nat) (s : PS) (w : World) : Prop where
  lo : B ≤ b
  hl : len ≤ 4096
  tb : TokB s.ts
  ab : s.at_ ≤ 4096
  good : s.good
  mp : MapR w B M
  mem : ∃ A cap, Blk w b 105 #[.slice A s.ts.length cap, .int .i64 len, .int .i64 s.at_, .int .i64 s.no, .int .i64 k, .int .i64 d, M] ∧ s.ts.length ≤ cap ∧ s.ts.length ≤ 4096 ∧ TokR w B A s.ts
variable {len k d : Nat} {M : Value} {s : PS}
theorem Par.lt (h : Par B b len M k d s w) : b < w.heap.size := by obtain ⟨A, cap, hb, -⟩ := h.mem; exact hb.lt
theorem Par.below (h : Par B b len M k d s w) (hb : Below w.heap.size w w1) : Par B b len M k d s w1 := by
  obtain ⟨A, cap, h1, h2, h3, h4⟩ := h.mem
  exact ⟨h.lo, h.hl, h.tb, h.ab, h.good, h.mp.keep fun g hg => hb.block g (Nat.lt_trans (Nat.lt_of_lt_of_le hg h.lo) h1.lt), A, cap, h1.below hb h1.lt, h2, h3, h4.keep fun p hp => hb.cell (Nat.lt_of_lt_of_le hp (Nat.le_trans h.lo (Nat.le_of_lt h1.lt)))⟩
theorem Par.alloc (h : Par B b len M k d s w) (o : Obj) : Par B b len M k d s (w.alloc o) := h.below ((Below.refl _ _).alloc (Nat.le_refl _) o)
theorem Par.drew (h : Par B b len M k d s w) : Par B b len M k d s w.drew := h.below (Below.refl _ _).drew
theorem TokR.set_ {p : Addr} (h : TokR w B A l) (hp : B ≤ p.block) (u : Value) : TokR (w.setCell p u) B A l := h.keep fun q hq => World.cell?_setCell_other w p q u (fun e => by subst e; omega)
theorem Pd.fresh (h : Pd b w w1) {p : Addr} (hp : w.heap.size ≤ p.block) (u : Value) : Pd b w (w1.setCell p u) :=
  ⟨h.os, h.tape, h.output, by simpa [World.setCell] using h.size, fun i hi hb => (Below.heap_setCell _ _ _ _ (by omega)).trans (h.block i hi hb)⟩
theorem Par.far (h : Par B b len M k d s w) {p : Addr} (hb : b ≠ p.block) (hB : B ≤ p.block) (u : Value) : Par B b len M k d s (w.setCell p u) := by
  obtain ⟨A, cap, h1, h2, h3, h4⟩ := h.mem
  exact ⟨h.lo, h.hl, h.tb, h.ab, h.good, h.mp.set_ hB u, A, cap, h1.far hb u, h2, h3, h4.set_ hB u⟩
theorem Par.within {d' : Nat} (h : Par B b len M k d s w) : Par B b len M k d' s (w.setCell ⟨b, 5, none⟩ (.int .i64 d')) := by
  obtain ⟨A, cap, h1, h2, h3, h4⟩ := h.mem
  exact ⟨h.lo, h.hl, h.tb, h.ab, h.good, h.mp.set_ h.lo _, A, cap, h1.set_ 5 _, h2, h3, h4.set_ h.lo _⟩
theorem Par.blocks {k' : Nat} (h : Par B b len M k d s w) : Par B b len M k' d s (w.setCell ⟨b, 4, none⟩ (.int .i64 k')) := by
  obtain ⟨A, cap, h1, h2, h3, h4⟩ := h.mem
  exact ⟨h.lo, h.hl, h.tb, h.ab, h.good, h.mp.set_ h.lo _, A, cap, h1.set_ 4 _, h2, h3, h4.set_ h.lo _⟩
theorem Par.none_ {a e : Nat} (h : Par B b len M k d s w) (ha : a ≤ 4096) : Par B b len M k d ⟨[], a, e⟩ (((w.setCell ⟨b, 2, none⟩ (.int .i64 a)).setCell ⟨b, 3, none⟩ (.int .i64 e)).setCell ⟨b, 0, none⟩ (.slice none 0 0)) := by
  obtain ⟨A, cap, h1, h2, h3, h4⟩ := h.mem
  exact ⟨h.lo, h.hl, (fun t ht => by cases ht), ha, (fun _ => rfl), ((h.mp.set_ (p := ⟨b, 2, none⟩) h.lo _).set_ (p := ⟨b, 3, none⟩) h.lo _).set_ (p := ⟨b, 0, none⟩) h.lo _, none, 0, ((h1.set_ 2 _).set_ 3 _).set_ 0 _, Nat.le_refl _, Nat.zero_le _, TokR.nil _ _ _⟩
/-- Behind the first token. -/
theorem Par.next_ {t : Tok} {r : List Tok} {A' : Option Addr} {cap' : Nat} (h : Par B b len M k d s w) (hs : s.ts = t :: r) (hc : r.length ≤ cap') (hR : TokR w B A' r) : Par B b len M k d (takeF s) (w.setCell ⟨b, 0, none⟩ (.slice A' r.length cap')) := by
  obtain ⟨A, cap, h1, h2, h3, h4⟩ := h.mem
  have e : (takeF s).ts = r := by unfold takeF; rw [hs]; rfl
  refine ⟨h.lo, h.hl, fun x hx => h.tb x (by rw [hs]; rw [e] at hx; exact List.mem_cons_of_mem _ hx), h.ab, fun q => ?_, h.mp.set_ h.lo _, A', cap', ?_, by rw [e]; exact hc, by rw [e]; rw [hs] at h3; simp only [List.length_cons] at h3; omega, by rw [e]; exact hR.set_ h.lo _⟩
  · have := h.good (show s.no ≠ 0 from q)
    rw [hs] at this
    cases this
  · rw [e]
    exact h1.set_ 0 _
end
theorem nxt_b {len : Nat} {s : PS} (hl : len ≤ 4096) (h : TokB s.ts) : (nxt len s).at_ ≤ 4096 ∧ (nxt len s).n ≤ 1152921504606846976 ∧ (nxt len s).kind ≤ 2 := by
  unfold nxt
  cases hs : s.ts with
  | nil => exact ⟨hl, by simp, by simp⟩
  | cons t r => exact h t (by rw [hs]; exact List.mem_cons_self)
end Go.Proofs.YteaongdlbleehaaGreatDoor
