/- What a script comes to: rows of refs and of functions; what they lie in. -/
import Derived.Test.YtdgjbbcalffbcaaBDoes
import Derived.Test.YtdgjbbcalffbcaaBRefStart
import Derived.Test.YtdgjbbcalffbcaaBAliveWalk
namespace Go.Proofs.Ytdgjbbcalffbcaa
open Go.RowKit

/-! ### Plainly: where there is always room -/
instance (n : Nat) (k : Int) : Decidable (InR n k) := by unfold InR; infer_instance
theorem okP_dec (n : Nat) (o : Opn) : okP n o ∨ ¬ okP n o := Classical.em _
open Classical in
/-- One op more. -/
noncomputable def plain1 (Fl : List (Nat → Bool)) (o : Opn) : List (Nat → Bool) :=
  if okP Fl.length o then Fl ++ [opF o (Fl.getD o.a.toNat fun _ => false) (Fl.getD o.b.toNat fun _ => false) (Fl.getD o.c.toNat fun _ => false)] else Fl
noncomputable def plainN (f : Nat → Opn) : Nat → List (Nat → Bool)
  | 0 => [fun _ => false, fun _ => true]
  | i + 1 => plain1 (plainN f i) (f i)
theorem plain1_yes {Fl : List (Nat → Bool)} {o : Opn} (h : okP Fl.length o) : plain1 Fl o = Fl ++ [opF o (Fl.getD o.a.toNat fun _ => false) (Fl.getD o.b.toNat fun _ => false) (Fl.getD o.c.toNat fun _ => false)] := if_pos h
theorem plain1_no {Fl : List (Nat → Bool)} {o : Opn} (h : ¬ okP Fl.length o) : plain1 Fl o = Fl := if_neg h
/-- What is known of a run, behind i ops: from L0 on. -/
structure RunC (lim : Nat) (L0 L : List Nd) (f : Nat → Opn) (i full : Nat) (rl : List Int) (Fl : List (Nat → Bool)) : Prop where
  same : rl.length = Fl.length
  many : 2 ≤ Fl.length ∧ Fl.length ≤ 2 + i
  tells : ∀ (j : Nat) r F, rl[j]? = some r → Fl[j]? = some F → Tells L F r
  more : ∃ M, L = L0 ++ M
  few : ∀ N : Nat, lowN N L ≤ lowN N L0 + i * (2 ^ N - 1)
  vars : ∀ N : Nat, AllV N L0 → (∀ j, j < i → (f j).v < (N : Int)) → AllV N L
  fulls : full ≤ i ∧ (0 < full → lim ≤ L.length)
  plain : full = 0 → Fl = plainN f i
theorem RunC.start {lim : Nat} {L0 : List Nd} {f : Nat → Opn} : RunC lim L0 L0 f 0 0 [-1, -2] [fun _ => false, fun _ => true] := by
  refine ⟨rfl, by simp, fun j r F h1 h2 => ?_, ⟨[], by simp⟩, fun N => by omega, fun N h _ => h, ⟨by omega, fun h => by omega⟩, fun _ => rfl⟩
  have hj : j = 0 ∨ j = 1 := by have := (List.getElem?_eq_some_iff.1 h1).1; simp at this; omega
  rcases hj with rfl | rfl
  · simp at h1 h2; subst h1 h2; exact ⟨by unfold InB; omega, fun b => fn_false _ b⟩
  · simp at h1 h2; subst h1 h2; exact ⟨by unfold InB; omega, fun b => fn_true _ b⟩
section
variable {lim : Nat} {L0 L L' : List Nd} {f : Nat → Opn} {i full : Nat} {rl : List Int} {Fl : List (Nat → Bool)}
theorem RunC.skip (h : RunC lim L0 L f i full rl Fl) (hn : ¬ okP Fl.length (f i)) : RunC lim L0 L f (i + 1) full rl Fl := by
  refine ⟨h.same, by have := h.many; omega, h.tells, h.more, fun N => ?_, fun N h0 hv => h.vars N h0 fun j hj => hv j (by omega), ⟨by have := h.fulls.1; omega, h.fulls.2⟩, fun h0 => ?_⟩
  · have := h.few N
    rw [Nat.add_mul]
    omega
  · have e := h.plain h0
    show _ = plain1 (plainN f i) (f i)
    rw [← e, plain1_no hn]
theorem few_next {a b c i N : Nat} (h1 : b ≤ c + i * (2 ^ N - 1)) (h2 : a ≤ b + (2 ^ N - 1)) : a ≤ c + (i + 1) * (2 ^ N - 1) := by rw [Nat.add_mul]; omega
theorem RunC.fuller (hR : RightL L) (h : RunC lim L0 L f i full rl Fl) (g : Grow2 (f i).v L L') (hl : lim ≤ L'.length) : RunC lim L0 L' f (i + 1) (full + 1) rl Fl := by
  refine ⟨h.same, by have := h.many; omega, fun j r F h1 h2 => tells_grow hR (h.tells j r F h1 h2) g.more, ?_, fun N => few_next (h.few N) (g.few N), fun N h0 hv => g.vars N (h.vars N h0 fun j hj => hv j (by omega)) (hv i (by omega)), ⟨by have := h.fulls.1; omega, fun _ => hl⟩, fun h0 => by omega⟩
  obtain ⟨M, rfl⟩ := h.more
  obtain ⟨M', rfl⟩ := g.more
  exact ⟨M ++ M', by simp⟩
theorem RunC.add (hR : RightL L) (h : RunC lim L0 L f i full rl Fl) (hk : okP Fl.length (f i)) (g : Grow2 (f i).v L L') {x : Int} (ht : Tells L' (opF (f i) (Fl.getD (f i).a.toNat fun _ => false) (Fl.getD (f i).b.toNat fun _ => false) (Fl.getD (f i).c.toNat fun _ => false)) x) :
    RunC lim L0 L' f (i + 1) full (rl ++ [x]) (Fl ++ [opF (f i) (Fl.getD (f i).a.toNat fun _ => false) (Fl.getD (f i).b.toNat fun _ => false) (Fl.getD (f i).c.toNat fun _ => false)]) := by
  have hs := h.same
  refine ⟨by simp [hs], by have := h.many; simp; omega, fun j r F h1 h2 => ?_, ?_, fun N => few_next (h.few N) (g.few N), fun N h0 hv => g.vars N (h.vars N h0 fun j hj => hv j (by omega)) (hv i (by omega)), ⟨by have := h.fulls.1; omega, fun h0 => Nat.le_trans (h.fulls.2 h0) (by obtain ⟨M, rfl⟩ := g.more; simp)⟩, fun h0 => ?_⟩
  · by_cases hj : j < rl.length
    · rw [List.getElem?_append_left hj] at h1
      rw [List.getElem?_append_left (by omega)] at h2
      exact tells_grow hR (h.tells j r F h1 h2) g.more
    · have hj2 := (List.getElem?_eq_some_iff.1 h1).1
      simp at hj2
      obtain rfl : j = rl.length := by omega
      rw [List.getElem?_append_right (Nat.le_refl _)] at h1
      rw [hs, List.getElem?_append_right (Nat.le_refl _)] at h2
      simp at h1 h2
      subst h1 h2
      exact ht
  · obtain ⟨M, rfl⟩ := h.more
    obtain ⟨M', rfl⟩ := g.more
    exact ⟨M ++ M', by simp⟩
  · have e := h.plain h0
    show _ = plain1 (plainN f i) (f i)
    rw [← e, plain1_yes hk]
end
/-! ### In memory -/
theorem Mg.only {W W1 : World} {own own1 : Nat → Prop} {m lim : Nat} {L : List Nd} (h : Mg W own m lim L) (ho : Only own1 W W1) (hd : ∀ i, own i → ¬ own1 i) (hm : ¬ own1 m) : Mg W1 own m lim L := by
  obtain ⟨p, q, g, n, c, T, ownA, h⟩ := h
  exact ⟨p, q, g, n, c, T, ownA, ho.blk h.blk hm, h.arena.only ho (fun i hi => hd i (h.mineA i hi)), h.memo.only ho (hd q h.mineQ) (hd g h.mineG), h.sound, h.bools, h.fits, h.mineA, h.mineQ, h.mineG, h.farQ, h.farG, h.farM, fun i hi => Nat.lt_of_lt_of_le (h.old i hi) ho.size⟩
theorem Mg.blk {W : World} {own : Nat → Prop} {m lim : Nat} {L : List Nd} (h : Mg W own m lim L) : ∃ cs, Blk W m 62 cs := by
  obtain ⟨p, q, g, n, c, T, ownA, h⟩ := h
  exact ⟨_, h.blk⟩
theorem Tab.grown {W W1 : World} {v : Value} {F : Nat → Bool} {row : Option Nat} (h : Tab W v F) (hg : W.grownBy W1 row) (hn : v.ownBlock ≠ row) : Tab W1 v F := by
  obtain ⟨g, c, rfl, hlt, hc⟩ := h
  exact ⟨g, c, rfl, Nat.lt_of_lt_of_le hlt hg.size, fun n hn' => hg.cell (a := ⟨g, n, none⟩) (hc n hn') hn⟩
theorem Tab.old {W : World} {v : Value} {F : Nat → Bool} (h : Tab W v F) : ∀ g, v.ownBlock = some g → g < W.heap.size := by
  obtain ⟨g, c, rfl, hlt, hc⟩ := h
  intro k hk
  have : g = k := by simpa [Value.ownBlock] using hk
  omega
/-- The rows of a run: of refs, of tables; apart from the manager's blocks, and from each other. -/
structure RunM (W0 : World) (own0 : Nat → Prop) (m lim : Nat) (L : List Nd) (rl : List Int) (tl : List Value) (own : Nat → Prop) (vl vt : Value) (W : World) : Prop where
  mg : Mg W own m lim L
  went : Went own0 W0 own W
  rowL : W.ownsRow W0.heap.size 3 1 vl rl.length (rl.map (Value.int .i64))
  rowT : W.ownsRow W0.heap.size 34 1 vt tl.length tl
  farL : ∀ g, vl.ownBlock = some g → ¬ own g
  farT : ∀ g, vt.ownBlock = some g → ¬ own g
  farV : ∀ v, v ∈ tl → ∀ g, v.ownBlock = some g → ¬ own g ∧ g < W.heap.size ∧ some g ≠ vl.ownBlock ∧ some g ≠ vt.ownBlock
theorem rows_ne {W : World} {b1 b2 n1 n2 : Nat} {e1 e2 : TypeId} {v1 v2 : Value} {x1 x2 : List Value} (h1 : W.ownsRow b1 e1 1 v1 n1 x1) (h2 : W.ownsRow b2 e2 1 v2 n2 x2) (hne : e1 ≠ e2) : ∀ g, v1.ownBlock = some g → v2.ownBlock ≠ some g := by
  intro g hg1 hg2
  rcases h1.2 with ⟨rfl, _⟩ | ⟨g1, c1, cur1, rfl, _, hh1, _⟩
  · simp [Value.ownBlock] at hg1
  · have e1' : g1 = g := by simpa [Value.ownBlock] using hg1
    subst e1'
    exact own_blk_ne h2 (show Blk W g1 e1 cur1 from hh1) (fun e => hne e.symm) hg2
section
variable {W0 W W1 : World} {own0 own own1 : Nat → Prop} {m lim : Nat} {L L' : List Nd} {rl : List Int} {tl : List Value} {vl vt : Value}
theorem RunM.move (h : RunM W0 own0 m lim L rl tl own vl vt W) (q : Went own W own1 W1) (hM : Mg W1 own1 m lim L') : RunM W0 own0 m lim L' rl tl own1 vl vt W1 := by
  have oldL : ∀ g, vl.ownBlock = some g → g < W.heap.size := fun g hg => (h.rowL.lt g hg).2
  have oldT : ∀ g, vt.ownBlock = some g → g < W.heap.size := fun g hg => (h.rowT.lt g hg).2
  exact ⟨hM, h.went.trans q, q.1.row h.rowL h.farL, q.1.row h.rowT h.farT, fun g hg => q.not (h.farL g hg) (oldL g hg), fun g hg => q.not (h.farT g hg) (oldT g hg), fun v hv g hg => by
    obtain ⟨a, b, c⟩ := h.farV v hv g hg
    exact ⟨q.not a b, Nat.lt_of_lt_of_le b q.size, c⟩⟩
theorem RunM.below (h : RunM W0 own0 m lim L rl tl own vl vt W) (hb : Below W.heap.size W W1) : RunM W0 own0 m lim L rl tl own vl vt W1 := h.move (Went.of_below hb own) (h.mg.below hb)
theorem RunM.addL (h : RunM W0 own0 m lim L rl tl own vl vt W) {x : Int} {vl' : Value} (ho : W1.ownsRow W0.heap.size 3 1 vl' (rl.length + 1) (rl.map (Value.int .i64) ++ [.int .i64 x])) (hg : W.grownBy W1 vl.ownBlock) (hv : vl'.ownBlock = vl.ownBlock ∨ vl'.ownBlock = some W.heap.size) :
    RunM W0 own0 m lim L (rl ++ [x]) tl own vl' vt W1 := by
  have hO : Only (fun i => vl.ownBlock = some i) W W1 := Only.of_grown hg fun g e => e
  obtain ⟨cs, hm⟩ := h.mg.blk
  have hs := hg.size
  have q : Went own0 W0 own W1 := ⟨h.went.1.trans hO fun i hi => .inr (h.rowL.lt i hi).1, h.went.2⟩
  refine ⟨h.mg.only hO (fun i hi e => h.farL i e hi) (own_blk_ne h.rowL hm (by decide)), q, by rw [List.length_append, List.map_append]; exact ho, hO.row h.rowT (fun g hg' e => rows_ne h.rowL h.rowT (by decide) g e hg'), fun g e => ?_, h.farT, fun v hvm g e => ?_⟩
  · rcases hv with hv | hv
    · exact h.farL g (hv ▸ e)
    · rw [hv] at e
      injection e with e
      exact new_not h.mg (by omega)
  · obtain ⟨a, b, c, d⟩ := h.farV v hvm g e
    refine ⟨a, by omega, ?_, d⟩
    rcases hv with hv | hv
    · rw [hv]; exact c
    · rw [hv]; intro e2; injection e2 with e2; omega
theorem RunM.addT (h : RunM W0 own0 m lim L rl tl own vl vt W) {tv vt' : Value} (ht : ∀ g, tv.ownBlock = some g → ¬ own g ∧ g < W.heap.size ∧ some g ≠ vl.ownBlock ∧ some g ≠ vt.ownBlock) (ho : W1.ownsRow W0.heap.size 34 1 vt' (tl.length + 1) (tl ++ [tv])) (hg : W.grownBy W1 vt.ownBlock) (hv : vt'.ownBlock = vt.ownBlock ∨ vt'.ownBlock = some W.heap.size) :
    RunM W0 own0 m lim L rl (tl ++ [tv]) own vl vt' W1 := by
  have hO : Only (fun i => vt.ownBlock = some i) W W1 := Only.of_grown hg fun g e => e
  obtain ⟨cs, hm⟩ := h.mg.blk
  have hs := hg.size
  have q : Went own0 W0 own W1 := ⟨h.went.1.trans hO fun i hi => .inr (h.rowT.lt i hi).1, h.went.2⟩
  refine ⟨h.mg.only hO (fun i hi e => h.farT i e hi) (own_blk_ne h.rowT hm (by decide)), q, hO.row h.rowL (fun g hg' e => rows_ne h.rowL h.rowT (by decide) g hg' e), by rw [List.length_append]; exact ho, h.farL, fun g e => ?_, fun v hvm g e => ?_⟩
  · rcases hv with hv | hv
    · exact h.farT g (hv ▸ e)
    · rw [hv] at e
      injection e with e
      exact new_not h.mg (by omega)
  · have key : ¬ own g ∧ g < W.heap.size ∧ some g ≠ vl.ownBlock ∧ some g ≠ vt.ownBlock := by
      rcases List.mem_append.1 hvm with hvm | hvm
      · exact h.farV v hvm g e
      · simp at hvm; subst hvm; exact ht g e
    obtain ⟨a, b, c, d⟩ := key
    refine ⟨a, by omega, c, ?_⟩
    rcases hv with hv | hv
    · rw [hv]; exact d
    · rw [hv]; intro e2; injection e2 with e2; omega
end
/-- The tables hold the functions. -/
def TabsL (W : World) (tl : List Value) (Fl : List (Nat → Bool)) : Prop := tl.length = Fl.length ∧ ∀ (j : Nat) v F, tl[j]? = some v → Fl[j]? = some F → Tab W v F
section
variable {W W1 : World} {own own1 : Nat → Prop} {tl : List Value} {Fl : List (Nat → Bool)}
theorem TabsL.went (h : TabsL W tl Fl) (q : Went own W own1 W1) (far : ∀ v, v ∈ tl → ∀ g, v.ownBlock = some g → ¬ own g) : TabsL W1 tl Fl :=
  ⟨h.1, fun j v F h1 h2 => (h.2 j v F h1 h2).went q (far v (List.mem_of_getElem? h1))⟩
theorem TabsL.below (h : TabsL W tl Fl) (hb : Below W.heap.size W W1) : TabsL W1 tl Fl := ⟨h.1, fun j v F h1 h2 => (h.2 j v F h1 h2).below hb⟩
theorem TabsL.grown (h : TabsL W tl Fl) {row : Option Nat} (hg : W.grownBy W1 row) (far : ∀ v, v ∈ tl → ∀ g, v.ownBlock = some g → some g ≠ row) : TabsL W1 tl Fl :=
  ⟨h.1, fun j v F h1 h2 => (h.2 j v F h1 h2).grown hg (by
    obtain ⟨g, c, e, -⟩ := h.2 j v F h1 h2
    have := far v (List.mem_of_getElem? h1) g (by rw [e]; rfl)
    rw [e]; exact this)⟩
theorem TabsL.add (h : TabsL W tl Fl) {v : Value} {G : Nat → Bool} (ht : Tab W v G) : TabsL W (tl ++ [v]) (Fl ++ [G]) := by
  have hs := h.1
  refine ⟨by simp [hs], fun j u F h1 h2 => ?_⟩
  by_cases hj : j < tl.length
  · rw [List.getElem?_append_left hj] at h1
    rw [List.getElem?_append_left (by omega)] at h2
    exact h.2 j u F h1 h2
  · have hj2 := (List.getElem?_eq_some_iff.1 h1).1
    simp at hj2
    obtain rfl : j = tl.length := by omega
    rw [List.getElem?_append_right (Nat.le_refl _)] at h1
    rw [hs, List.getElem?_append_right (Nat.le_refl _)] at h2
    simp at h1 h2
    subst h1 h2
    exact ht
/-- As does and Do ask it. -/
theorem TabsL.tabs (h : TabsL W tl Fl) {base n : Nat} {A : Option Addr} {c : Nat} (hr : W.ownsRow base 34 1 (.slice A n c) n tl) (hn : n = tl.length) : Tabs W A n (fun j => tl.getD j .nilIface) (fun j => Fl.getD j fun _ => false) := fun h0 => by
  obtain ⟨g, rfl, hg, -⟩ := row_at hr h0
  have hs := h.1
  refine ⟨g, 0, rfl, hg, fun j hj => ?_, fun j hj => ?_⟩
  · have e : tl[j]? = some tl[j] := List.getElem?_eq_getElem (by omega)
    rw [Nat.zero_add, hr.cellAt j (by omega)]
    simp only [List.getD_eq_getElem?_getD, e, Option.getD_some]
  · have e : tl[j]? = some tl[j] := List.getElem?_eq_getElem (by omega)
    have e2 : Fl[j]? = some Fl[j] := List.getElem?_eq_getElem (by omega)
    have := h.2 j _ _ e e2
    simp only [List.getD_eq_getElem?_getD, e, e2, Option.getD_some]
    exact this
end
theorem ints_of {W : World} {base n : Nat} {A : Option Addr} {c : Nat} {rl : List Int} (hr : W.ownsRow base 3 1 (.slice A n c) n (rl.map (Value.int .i64))) (hn : n = rl.length) : Ints W A n (fun j => rl.getD j 0) := fun h0 => by
  obtain ⟨g, rfl, hg, -⟩ := row_at hr h0
  refine ⟨g, 0, rfl, hg, fun j hj => ?_⟩
  have e : rl[j]? = some rl[j] := List.getElem?_eq_getElem (by omega)
  rw [Nat.zero_add, hr.cellAt j (by omega), List.getElem?_map]
  simp only [List.getD_eq_getElem?_getD, e, Option.getD_some, Option.map_some]
theorem RunC.told {lim : Nat} {L0 L : List Nd} {f : Nat → Opn} {i full : Nat} {rl : List Int} {Fl : List (Nat → Bool)} (h : RunC lim L0 L f i full rl Fl) {n : Nat} (hn : n = rl.length) : ∀ j, j < n → Tells L ((fun j => Fl.getD j fun _ => false) j) ((fun j => rl.getD j 0) j) := fun j hj => by
  have hs := h.same
  have e : rl[j]? = some rl[j] := List.getElem?_eq_getElem (by omega)
  have e2 : Fl[j]? = some Fl[j] := List.getElem?_eq_getElem (by omega)
  have := h.tells j _ _ e e2
  simp only [List.getD_eq_getElem?_getD, e, e2]
  exact this
theorem base_mono {W : World} {b b' n size : Nat} {e : TypeId} {v : Value} {xs : List Value} (h : W.ownsRow b e size v n xs) (hb : b' ≤ b) : W.ownsRow b' e size v n xs :=
  ⟨h.1, h.2.imp id fun ⟨g, c, cur, e1, h1, h2⟩ => ⟨g, c, cur, e1, Nat.le_trans hb h1, h2⟩⟩
theorem Ops.went {W W1 : World} {own own1 : Nat → Prop} {A : Option Addr} {m : Nat} {f : Nat → Opn} (h : Ops W A m f) (q : Went own W own1 W1) (hn : ∀ b off, A = some ⟨b, off, none⟩ → ¬ own b) : Ops W1 A m f := fun hm => by
  obtain ⟨b, off, rfl, hlt, hc⟩ := h hm
  have hb := hn b off rfl
  refine ⟨b, off, rfl, Nat.lt_of_lt_of_le hlt q.size, fun j hj => ?_⟩
  obtain ⟨h0, h1, h2, h3, h4, h5⟩ := hc j hj
  exact ⟨(q.cell hlt hb).trans h0, (q.cell hlt hb).trans h1, (q.cell hlt hb).trans h2, (q.cell hlt hb).trans h3, (q.cell hlt hb).trans h4, (q.cell hlt hb).trans h5⟩
/-- What does tells, by whether the op may be. -/
theorem d_ok {n : Nat} {o : Opn} {G : Nat → Bool} {own : Nat → Prop} {m lim : Nat} {L : List Nd} {W : World} {e : Ending} {w' : World} (h : RetD n o G own m lim L W e w') (hk : okP n o) :
    ∃ (own' : Nat → Prop) (L' : List Nd) (x : Int) (ev : Value), e = .returned (.tuple #[.int .i64 x, ev]) ∧ Mg w' own' m lim L' ∧ Went own W own' w' ∧ Grow2 o.v L L' ∧ ((ev = .nilIface ∧ Tells L' G x) ∨ (x = 0 ∧ ∃ b : Nat, ev = .iface 118 (.pointer (some ⟨b, 0, none⟩)) ∧ w'.cell? ⟨b, 2, none⟩ = some (.iface 54 (.int .i64 50)) ∧ b < w'.heap.size ∧ lim ≤ L'.length)) := by
  obtain ⟨x, ev, rfl, ⟨-, own', L', h1, h2, h3, x', ev', e, h4⟩ | ⟨hn, -⟩⟩ := h
  · injection e with e
    injection e with e
    have e1 : x = x' ∧ ev = ev' := by simpa using e
    obtain ⟨rfl, rfl⟩ := e1
    refine ⟨own', L', x, ev, rfl, h1, h2, h3, h4.imp id ?_⟩
    rintro ⟨hx, b, a, he, hb, hl⟩
    exact ⟨hx, b, he, hb.cell 2, hb.lt, hl⟩
  · exact absurd hk hn
theorem d_not {n : Nat} {o : Opn} {G : Nat → Bool} {own : Nat → Prop} {m lim : Nat} {L : List Nd} {W : World} {e : Ending} {w' : World} (h : RetD n o G own m lim L W e w') (hk : ¬ okP n o) :
    ∃ own' : Nat → Prop, e = .returned (.tuple #[.int .i64 0, .iface 54 (.int .i64 1)]) ∧ Mg w' own' m lim L ∧ Went own W own' w' := by
  obtain ⟨x, ev, rfl, ⟨hn, -⟩ | ⟨-, own', h1, h2, h3⟩⟩ := h
  · exact absurd hn hk
  · exact ⟨own', h1, h2, h3⟩
end Go.Proofs.Ytdgjbbcalffbcaa
