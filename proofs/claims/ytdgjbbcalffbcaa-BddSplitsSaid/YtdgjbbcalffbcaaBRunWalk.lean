/- The contract of run. -/
import Derived.Test.YtdgjbbcalffbcaaBRunMath
namespace Go.Proofs.Ytdgjbbcalffbcaa
open Go.RowKit
attribute [local go_sem ↓] Go.wp_at_zero Go.wp_at_succ

/-- A run, behind i ops. -/
structure RunI (W0 : World) (own0 : Nat → Prop) (m lim : Nat) (L0 : List Nd) (f : Nat → Opn) (i full : Nat) (rl : List Int) (tl : List Value) (Fl : List (Nat → Bool)) (L : List Nd) (own : Nat → Prop) (vl vt : Value) (W : World) : Prop where
  mem : RunM W0 own0 m lim L rl tl own vl vt W
  plain : RunC lim L0 L f i full rl Fl
  tabs : TabsL W tl Fl
section
variable {W0 W W1 W2 : World} {own0 own own1 : Nat → Prop} {m lim i full : Nat} {L0 L L' : List Nd} {f : Nat → Opn} {rl : List Int} {tl : List Value} {Fl : List (Nat → Bool)} {vl vt : Value}
theorem RunI.below (h : RunI W0 own0 m lim L0 f i full rl tl Fl L own vl vt W) (hb : Below W.heap.size W W1) : RunI W0 own0 m lim L0 f i full rl tl Fl L own vl vt W1 := ⟨h.mem.below hb, h.plain, h.tabs.below hb⟩
theorem RunI.skip (h : RunI W0 own0 m lim L0 f i full rl tl Fl L own vl vt W) (hk : ¬ okP Fl.length (f i)) (q : Went own W own1 W1) (hM : Mg W1 own1 m lim L) (hb : Below W1.heap.size W1 W2) : RunI W0 own0 m lim L0 f (i + 1) full rl tl Fl L own1 vl vt W2 :=
  ⟨(h.mem.move q hM).below hb, h.plain.skip hk, (h.tabs.went q fun v hv g e => (h.mem.farV v hv g e).1).below hb⟩
theorem RunI.fuller (h : RunI W0 own0 m lim L0 f i full rl tl Fl L own vl vt W) (q : Went own W own1 W1) (hM : Mg W1 own1 m lim L') (hb : Below W1.heap.size W1 W2) (g : Grow2 (f i).v L L') (hl : lim ≤ L'.length) : RunI W0 own0 m lim L0 f (i + 1) (full + 1) rl tl Fl L' own1 vl vt W2 :=
  ⟨(h.mem.move q hM).below hb, h.plain.fuller h.mem.mg.right g hl, (h.tabs.went q fun v hv g e => (h.mem.farV v hv g e).1).below hb⟩
/-- Behind does and Do, ahead of the appends: the rows as they were. -/
theorem RunI.moved (h : RunI W0 own0 m lim L0 f i full rl tl Fl L own vl vt W) (q : Went own W own1 W1) (hM : Mg W1 own1 m lim L') (hb : Below W1.heap.size W1 W2) : RunM W0 own0 m lim L' rl tl own1 vl vt W2 ∧ TabsL W2 tl Fl :=
  ⟨(h.mem.move q hM).below hb, (h.tabs.went q fun v hv g e => (h.mem.farV v hv g e).1).below hb⟩
def RetRun (W0 : World) (own0 : Nat → Prop) (m lim : Nat) (L0 : List Nd) (f : Nat → Opn) (ml : Nat) (e : Ending) (w' : World) : Prop :=
  ∃ (full : Nat) (rl : List Int) (tl : List Value) (Fl : List (Nat → Bool)) (L : List Nd) (own : Nat → Prop) (vl vt : Value), e = .returned (.tuple #[vl, vt, .int .i64 full, .bool true]) ∧ RunI W0 own0 m lim L0 f ml full rl tl Fl L own vl vt w'
theorem one_tab {W : World} {v : Value} {F : Nat → Bool} (h : Tab W v F) : ∀ u ∈ [v], u.oneCell' = true := by
  intro u hu
  simp at hu
  subst hu
  obtain ⟨g, c, rfl, -⟩ := h
  rfl
theorem one_int (x : Int) : ∀ u ∈ [Value.int .i64 x], u.oneCell' = true := by
  intro u hu
  simp at hu
  subst hu
  rfl
/-- Behind the first append, and behind the second. -/
theorem append_l {W2 w3 w4 : World} {own2 : Nat → Prop} {tv vl' : Value} {G : Nat → Bool} {x : Int} (h : RunM W0 own0 m lim L' rl tl own2 vl vt w3 ∧ TabsL w3 tl Fl) (ht : Tab w3 tv G) (hn : ∀ g, tv.ownBlock = some g → W2.heap.size ≤ g) (old : ∀ i, own2 i → i < W2.heap.size)
    (ho : w4.ownsRow W0.heap.size 3 1 vl' (rl.length + 1) (rl.map (Value.int .i64) ++ [.int .i64 x])) (hg : (w3.alloc (.cells #[.int .i64 x] 3)).grownBy w4 vl.ownBlock) (hv : vl'.ownBlock = vl.ownBlock ∨ vl'.ownBlock = some (w3.alloc (.cells #[.int .i64 x] 3)).heap.size)
    (hvl : ∀ g, vl.ownBlock = some g → g < W2.heap.size) (hvt : ∀ g, vt.ownBlock = some g → g < W2.heap.size) :
    RunM W0 own0 m lim L' (rl ++ [x]) tl own2 vl' vt w4 ∧ TabsL w4 tl Fl ∧ (Tab w4 tv G ∧ ∀ g, tv.ownBlock = some g → ¬ own2 g ∧ g < w4.heap.size ∧ some g ≠ vl'.ownBlock ∧ some g ≠ vt.ownBlock) ∧ W0.heap.size ≤ (w4.alloc (.cells #[tv] 34)).heap.size := by
  have hb1 : Below w3.heap.size w3 (w3.alloc (.cells #[.int .i64 x] 3)) := (Below.refl _ _).alloc (Nat.le_refl _) _
  have hM := h.1.below hb1
  have hT := h.2.below hb1
  have ne : ∀ g, tv.ownBlock = some g → some g ≠ vl.ownBlock := fun g e e2 => by have := hn g e; have := hvl g e2.symm; omega
  have hs := hg.size
  have hw := h.1.went.size
  have htb := ht.below hb1
  refine ⟨hM.addL ho hg hv, hT.grown hg (fun v hvm g e => (hM.farV v hvm g e).2.2.1), ⟨htb.grown hg (fun e => ?_), fun g e => ?_⟩, ?_⟩
  · obtain ⟨g, c, rfl, -⟩ := ht
    exact ne g rfl (by rw [← e]; rfl)
  · have hlt := htb.old g e
    have hn1 := hn g e
    refine ⟨fun hi => by have := old g hi; omega, by omega, ?_, fun e2 => by have := hvt g e2.symm; omega⟩
    rcases hv with hv | hv
    · rw [hv]; exact ne g e
    · rw [hv]; intro e2; injection e2 with e2; omega
  · rw [World.size_alloc]
    rw [World.size_alloc] at hs
    omega
theorem append_t {w4 w5 : World} {own2 : Nat → Prop} {tv vt' : Value} {G : Nat → Bool} (h : RunM W0 own0 m lim L' rl tl own2 vl vt w4 ∧ TabsL w4 tl Fl ∧ (Tab w4 tv G ∧ ∀ g, tv.ownBlock = some g → ¬ own2 g ∧ g < w4.heap.size ∧ some g ≠ vl.ownBlock ∧ some g ≠ vt.ownBlock) ∧ W0.heap.size ≤ (w4.alloc (.cells #[tv] 34)).heap.size)
    (ho : w5.ownsRow W0.heap.size 34 1 vt' (tl.length + 1) (tl ++ [tv])) (hg : (w4.alloc (.cells #[tv] 34)).grownBy w5 vt.ownBlock) (hv : vt'.ownBlock = vt.ownBlock ∨ vt'.ownBlock = some (w4.alloc (.cells #[tv] 34)).heap.size) :
    RunM W0 own0 m lim L' rl (tl ++ [tv]) own2 vl vt' w5 ∧ TabsL w5 (tl ++ [tv]) (Fl ++ [G]) := by
  obtain ⟨hM, hT, ⟨ht, hf⟩, -⟩ := h
  have hb1 : Below w4.heap.size w4 (w4.alloc (.cells #[tv] 34)) := (Below.refl _ _).alloc (Nat.le_refl _) _
  have hM1 := hM.below hb1
  have hf1 : ∀ g, tv.ownBlock = some g → ¬ own2 g ∧ g < (w4.alloc (.cells #[tv] 34)).heap.size ∧ some g ≠ vl.ownBlock ∧ some g ≠ vt.ownBlock := fun g e => by
    obtain ⟨a, b, c⟩ := hf g e
    exact ⟨a, Nat.lt_of_lt_of_le b hb1.size, c⟩
  refine ⟨hM1.addT hf1 ho hg hv, ((hT.below hb1).grown hg (fun v hvm g e => (hM1.farV v hvm g e).2.2.2)).add ((ht.below hb1).grown hg (fun e => ?_))⟩
  obtain ⟨g, c, rfl, -⟩ := ht
  exact (hf g rfl).2.2.2 (by rw [← e]; rfl)
theorem run_bounds {n : Nat} (h : n ≤ 100) : n + 1 ≤ maxLen ∧ (n + 1) * 8 ≤ 140737488355328 ∧ (n + 1) * 24 ≤ 140737488355328 := by unfold maxLen; omega
theorem run_start (hM : Mg W own m lim L0) {w : World} {g c : Nat} {v0 v1 : Value} (t0 : Tab w v0 (fun _ => false)) (t1 : Tab w v1 (fun _ => true)) (k0 : ∀ k, v0.ownBlock = some k → W.heap.size + 1 ≤ k) (k1 : ∀ k, v1.ownBlock = some k → W.heap.size + 1 ≤ k)
    (hr : w.ownsRow (W.heap.size + 1) 34 1 (.slice (some ⟨g, 0, none⟩) 2 c) 2 [v0, v1]) (hb : Below (W.heap.size + 1) (W.alloc (.cells #[.int .i64 (-1), .int .i64 (-2)] 3)) w) :
    RunI W own m lim L0 f 0 0 [-1, -2] [v0, v1] [fun _ => false, fun _ => true] L0 own (.slice (some ⟨W.heap.size, 0, none⟩) 2 2) (.slice (some ⟨g, 0, none⟩) 2 c) w := by
  have hs : (W.alloc (.cells #[.int .i64 (-1), .int .i64 (-2)] 3)).heap.size = W.heap.size + 1 := World.size_alloc _ _
  have hb0 : Below W.heap.size W (W.alloc (.cells #[.int .i64 (-1), .int .i64 (-2)] 3)) := (Below.refl _ _).alloc (Nat.le_refl _) _
  have hbW : Below W.heap.size W w := hb0.trans (hb.mono (by omega))
  have hbA : Below (W.alloc (.cells #[.int .i64 (-1), .int .i64 (-2)] 3)).heap.size (W.alloc (.cells #[.int .i64 (-1), .int .i64 (-2)] 3)) w := by rw [hs]; exact hb
  have hg : W.heap.size + 1 ≤ g := (hr.lt g rfl).1
  refine ⟨⟨hM.below hbW, Went.of_below hbW own, ?_, base_mono hr (by omega), fun k hk => ?_, fun k hk => ?_, fun v hv k hk => ?_⟩, RunC.start, rfl, fun j v F h1 h2 => ?_⟩
  · exact own_below (World.ownsRow_lit (base := W.heap.size) (e := 3) (size := 1) W #[.int .i64 (-1), .int .i64 (-2)] 2 (Nat.le_refl _) (by unfold maxLen; omega) (by simp)) hbA
  · have : W.heap.size = k := by simpa [Value.ownBlock] using hk
    exact new_not hM (by omega)
  · have : g = k := by simpa [Value.ownBlock] using hk
    exact new_not hM (by omega)
  · have hk1 : W.heap.size + 1 ≤ k ∧ k < w.heap.size ∧ k ≠ g := by
      simp at hv
      have far : ∀ u F, Tab w u F → u.ownBlock = some k → k ≠ g := fun u F ht e hkg => by
        obtain ⟨gu, cu, rfl, hlt, hc⟩ := ht
        have e' : gu = k := by simpa [Value.ownBlock] using e
        subst e'
        subst hkg
        have h1 := hc 0 (by omega)
        rw [show (⟨gu, 0, none⟩ : Addr) = (⟨gu, 0 + 0, none⟩ : Addr) from rfl] at h1
        have h2 := hr.cellAt 0 (g := gu) (by omega)
        simp at h2
        rw [h1] at h2
        injection h2 with h2
        subst h2
        obtain ⟨_, _, e0, _⟩ := t0
        cases e0
      rcases hv with rfl | rfl
      · exact ⟨k0 k hk, t0.old k hk, far _ _ t0 hk⟩
      · exact ⟨k1 k hk, t1.old k hk, far _ _ t1 hk⟩
    refine ⟨new_not hM (by omega), hk1.2.1, ?_, ?_⟩
    · simp [Value.ownBlock]; omega
    · simp [Value.ownBlock]; omega
  · have hj : j = 0 ∨ j = 1 := by have := (List.getElem?_eq_some_iff.1 h1).1; simp at this; omega
    rcases hj with rfl | rfl
    · simp at h1 h2; subst h1 h2; exact t0
    · simp at h1 h2; subst h1 h2; exact t1
theorem Ops.named {W : World} {A : Option Addr} {m i : Nat} {f : Nat → Opn} (h : Ops W A m f) (hi : i < m) : ∃ (b off : Nat), A = some ⟨b, off, none⟩ ∧ b < W.heap.size ∧ W.cell? ⟨b, off + i * 6, none⟩ = some (.int .i64 (f i).kind) ∧ W.cell? ⟨b, off + i * 6 + 1, none⟩ = some (.int .i64 (f i).v) ∧ W.cell? ⟨b, off + i * 6 + 2, none⟩ = some (.int .i64 (f i).a) ∧ W.cell? ⟨b, off + i * 6 + 3, none⟩ = some (.int .i64 (f i).b) ∧ W.cell? ⟨b, off + i * 6 + 4, none⟩ = some (.int .i64 (f i).c) ∧ W.cell? ⟨b, off + i * 6 + 5, none⟩ = some (.bool (f i).yes) := by
  obtain ⟨b, off, hA, hlt, hc⟩ := h (by omega)
  exact ⟨b, off, hA, hlt, hc i hi⟩
set_option maxRecDepth 100000 in
set_option maxHeartbeats 6400000 in
theorem run_any (hM : Mg W own m lim L0) (hl : lim ≤ 65536) {As : Option Addr} {ml cs : Nat} (hO : Ops W As ml f) (hfar : 0 < ml → ∀ b off, As = some ⟨b, off, none⟩ → ¬ own b) (hml : ml ≤ 20) :
    Calls Try.prog 12 #[.pointer (some ⟨m, 0, none⟩), .slice As ml cs] W (RetRun W own m lim L0 f ml) := by
  have HM := Lib.hid hM
  have HO := Lib.hid hO
  have HFar := Lib.hid hfar
  have HL := Lib.hid hl
  have s1 := size_up (rfl : W.heap.size = W.heap.size) (.cells #[.int .i64 (-1), .int .i64 (-2)] 3)
  have HSt := Lib.hid (start_row (W.alloc (.cells #[.int .i64 (-1), .int .i64 (-2)] 3)))
  unfold RetStart at HSt
  rw [s1] at HSt
  have hi1 : (Try.prog.info? 3).map (fun i => (i.zero, i.size, i.bytes)) = some (some (.int .i64 0), 1, 8) := by kernel_rfl
  obtain ⟨ii, hii, hiz, his, hib⟩ := info_parts hi1
  have HI1 := Lib.hid (And.intro hii (And.intro hiz (And.intro his hib)))
  have hi2 : (Try.prog.info? 34).map (fun i => (i.zero, i.size, i.bytes)) = some (some (.slice none 0 0), 1, 24) := by kernel_rfl
  obtain ⟨it, hti, htz, hts, htb⟩ := info_parts hi2
  have HI2 := Lib.hid (And.intro hti (And.intro htz (And.intro hts htb)))
  clear hM hO hfar hl s1 hi1 hii hiz his hib hi2 hti htz hts htb
  go_enter Try.func12, Try.ntmps12
  go_wp2_with (go_at_call 32; ((with_reducible refine HSt.out.mono ?_); rintro e w1 ⟨g, c, v0, v1, rfl, t0, t1, k0, k1, hr, hb⟩); have HR0 := Lib.hid (run_start (f := f) HM.out t0 t1 k0 k1 hr hb); clear t0 t1 k0 k1 hr hb)
  go_loopg [8, 9, 10, 21] ml (fun gk t8 t9 t10 t21 wr => ∃ (i full : Nat) (rl : List Int) (tl : List Value) (Fl : List (Nat → Bool)) (L : List Nd) (ow : Nat → Prop), i + gk = ml ∧ t21 = .int .i64 (i : Int) ∧ t10 = .int .i64 (full : Int) ∧ RunI W own m lim L0 f i full rl tl Fl L ow t8 t9 wr)
  case atStart => exact ⟨0, 0, _, _, _, _, _, by omega, rfl, rfl, HR0.out⟩
  case round =>
    rename Nat => g0
    obtain ⟨i, full, rl, tl, Fl, L, ow, hgi, rfl, rfl, hI⟩ := hrel
    have HI := Lib.hid hI
    have HG := Lib.hid hgi
    clear hI hgi
    by_cases him : i < ml
    · obtain ⟨o, ho⟩ : ∃ o, f i = o := ⟨_, rfl⟩
      obtain ⟨bs, off, hA, hlt, k0, k1, k2, k3, k4, k5⟩ := (HO.out.went HI.out.mem.went (HFar.out (by omega))).named him
      rw [ho] at k0 k1 k2 k3 k4 k5
      have hsame := HI.out.plain.same
      have htl := HI.out.tabs.1
      have hmany := HI.out.plain.many
      obtain ⟨Al, cl, e8⟩ := own_form HI.out.mem.rowL (by omega)
      obtain ⟨At, ct, e9⟩ := own_form HI.out.mem.rowT (by omega)
      subst e8
      subst e9
      subst hA
      obtain ⟨G, hG⟩ : ∃ G, G = opF o (Fl.getD o.a.toNat fun _ => false) (Fl.getD o.b.toNat fun _ => false) (Fl.getD o.c.toNat fun _ => false) := ⟨_, rfl⟩
      have hbo : Below wr.heap.size wr (wr.alloc (.cells #[.int .i64 o.kind, .int .i64 o.v, .int .i64 o.a, .int .i64 o.b, .int .i64 o.c, .bool o.yes] 31)) := (Below.refl _ _).alloc (Nat.le_refl _) _
      have HBo := Lib.hid hbo
      have hIo := HI.out.below hbo
      have HDoes : Hid (Calls Try.prog 33 #[.pointer (some ⟨m, 0, none⟩), .slice Al rl.length cl, .agg #[.int .i64 o.kind, .int .i64 o.v, .int .i64 o.a, .int .i64 o.b, .int .i64 o.c, .bool o.yes]] (wr.alloc (.cells #[.int .i64 o.kind, .int .i64 o.v, .int .i64 o.a, .int .i64 o.b, .int .i64 o.c, .bool o.yes] 31)) (RetD rl.length o G ow m lim L (wr.alloc (.cells #[.int .i64 o.kind, .int .i64 o.v, .int .i64 o.a, .int .i64 o.b, .int .i64 o.c, .bool o.yes] 31)))) :=
        Lib.hid (by rw [hG]; exact does_any o hIo.mem.mg HL.out (HI.out.plain.told rfl) (ints_of hIo.mem.rowL rfl) (by omega))
      have HDo : Hid (∀ own2 w2 L2, Went ow wr own2 w2 → Mg w2 own2 m lim L2 → Calls Try.prog 34 #[.slice At tl.length ct, .agg #[.int .i64 o.kind, .int .i64 o.v, .int .i64 o.a, .int .i64 o.b, .int .i64 o.c, .bool o.yes]] w2 (RetDo tl.length o G w2)) :=
        Lib.hid fun own2 w2 L2 q2 m2 => by
          obtain ⟨hm2, ht2⟩ := HI.out.moved q2 m2 (Below.refl _ _)
          rw [hG]
          exact do_all o (ht2.tabs hm2.rowT rfl) (by omega)
      have HNew : Hid (¬ ow wr.heap.size) := Lib.hid (new_not HI.out.mem.mg (Nat.le_refl _))
      have HVl := Lib.hid (fun g e => (HI.out.mem.rowL.lt g e).2)
      have HVt := Lib.hid (fun g e => (HI.out.mem.rowT.lt g e).2)
      have HOx := Lib.hid ho
      have HGx := Lib.hid hG
      have HLen := Lib.hid (show rl.length = Fl.length ∧ tl.length = Fl.length ∧ 2 ≤ Fl.length ∧ Fl.length ≤ 2 + i ∧ full ≤ i from ⟨hsame, htl, hmany.1, hmany.2, HI.out.plain.fulls.1⟩)
      clear hbo hIo ho hG hsame htl hmany
      by_cases hk : okP Fl.length o
      · have HK := Lib.hid hk
        have HDoes2 := Lib.hid (HDoes.out.mono fun e w' hr => d_ok hr (by rw [HLen.out.1]; exact hk))
        have HDo2 : Hid (∀ own2 w2 L2, Went ow wr own2 w2 → Mg w2 own2 m lim L2 → Calls Try.prog 34 #[.slice At tl.length ct, .agg #[.int .i64 o.kind, .int .i64 o.v, .int .i64 o.a, .int .i64 o.b, .int .i64 o.c, .bool o.yes]] w2 (RetYes G w2)) := Lib.hid fun own2 w2 L2 q2 m2 => (HDo.out own2 w2 L2 q2 m2).mono fun e w' hr => hr.elim (fun h => h.2) (fun h => absurd (by rw [HLen.out.2.1]; exact hk) h.1)
        have hfull : full ≤ 20 := by have := HLen.out; omega
        obtain ⟨hii, hiz, his, hib⟩ := HI1.out
        obtain ⟨hti, htz, hts, htb⟩ := HI2.out
        have HBnL := Lib.hid (run_bounds (show rl.length ≤ 100 by have := HLen.out; omega))
        have HBnT := Lib.hid (run_bounds (show tl.length ≤ 100 by have := HLen.out; omega))
        have HBase := Lib.hid (HI.out.mem.went.size)
        clear hk HDoes HDo
        go_wp2_with (first
          | (go_at_call 33; ((with_reducible refine HDoes2.out.mono ?_); rintro e w2 ⟨own2, L2, x, ev, rfl, m2, q2, g2, (⟨rfl, ht2⟩ | ⟨rfl, b2, rfl, c2, hlt2, hll⟩)⟩) <;> (have hbx := q2.blk (Blk.new wr 31 #[.int .i64 o.kind, .int .i64 o.v, .int .i64 o.a, .int .i64 o.b, .int .i64 o.c, .bool o.yes]) HNew.out; have d0 : w2.cell? ⟨wr.heap.size, 0, none⟩ = some (.int .i64 o.kind) := hbx.cell 0; have d1 : w2.cell? ⟨wr.heap.size, 1, none⟩ = some (.int .i64 o.v) := hbx.cell 1; have d2 : w2.cell? ⟨wr.heap.size, 2, none⟩ = some (.int .i64 o.a) := hbx.cell 2; have d3 : w2.cell? ⟨wr.heap.size, 3, none⟩ = some (.int .i64 o.b) := hbx.cell 3; have d4 : w2.cell? ⟨wr.heap.size, 4, none⟩ = some (.int .i64 o.c) := hbx.cell 4; have d5 : w2.cell? ⟨wr.heap.size, 5, none⟩ = some (.bool o.yes) := hbx.cell 5; have M2 := Lib.hid m2; have Q2 := Lib.hid ((Went.of_below HBo.out ow).trans q2); have G2 := Lib.hid g2; clear m2 q2 g2 hbx))
          | (go_at_call 34; ((with_reducible refine (HDo2.out _ _ _ Q2.out M2.out).mono ?_); rintro e w3 ⟨tv, rfl, htv, hnew, hb3⟩); (have htv' := htv); (obtain ⟨gt, c3, e3, -⟩ := htv'); subst e3; have H3 := Lib.hid (HI.out.moved Q2.out M2.out hb3); have HB3 := Lib.hid hb3; have HTv := Lib.hid htv; have HNw := Lib.hid hnew; clear htv hnew hb3)
          | (go_at_call 26; ((with_reducible refine (is_nil 50 _).mono ?_); rintro e w9 ⟨rfl, h9⟩); replace h9 := h9.symm; subst h9; have hownL := (H3.out.1.below ((Below.refl w3.heap.size w3).alloc (Nat.le_refl _) (.cells #[.int .i64 x] 3))).rowL)
          | (go_at_call 26; ((with_reducible refine (is_fault _ 50 _ ((HB3.out.cell (p := ⟨b2, 2, none⟩) hlt2).trans c2)).mono ?_); rintro e w9 ⟨rfl, rfl⟩))
          | (at_builtin; refine wpList_append_at rfl _ _ 26 rfl W.heap.size 3 ii (.int .i64 0) 1 8 Try.underlying26 hii hiz his hib rfl (by decide) _ _ _ rfl hownL ⟨w3.heap.size, 0, none⟩ 1 1 [.int .i64 x] rfl rfl ?_ ?_ ?_ ?_ ?_ ?_; exact one_at _ _ _; exact one_int _; exact HBnL.out.1; exact HBnL.out.2.1; exact Nat.le_trans HBase.out (Nat.le_trans Q2.out.size (Nat.le_trans HB3.out.size ((Below.refl w3.heap.size w3).alloc (Nat.le_refl _) _).size)); intro v4 w4 ho4 hg4 hv4; have H4 := Lib.hid (append_l H3.out HTv.out HNw.out (M2.out.old) ho4 hg4 hv4 (fun g e => Nat.lt_of_lt_of_le (HVl.out g e) Q2.out.size) (fun g e => Nat.lt_of_lt_of_le (HVt.out g e) Q2.out.size)); have hownT := (H4.out.1.below ((Below.refl w4.heap.size w4).alloc (Nat.le_refl _) (.cells #[.slice (some ⟨gt, 0, none⟩) 4096 c3] 34))).rowT; have HS4 := Lib.hid hg4.size; clear ho4 hg4 hv4 hownL)
          | (at_builtin; refine wpList_append_at rfl _ _ 27 rfl W.heap.size 34 it (.slice none 0 0) 1 24 Try.underlying27 hti htz hts htb rfl (by decide) _ _ _ rfl hownT ⟨w4.heap.size, 0, none⟩ 1 1 [.slice (some ⟨gt, 0, none⟩) 4096 c3] rfl rfl ?_ ?_ ?_ ?_ ?_ ?_; exact one_at _ _ _; exact one_tab HTv.out; exact HBnT.out.1; exact HBnT.out.2.2; exact H4.out.2.2.2; intro v5 w5 ho5 hg5 hv5; have H5 := Lib.hid (append_t H4.out ho5 hg5 hv5); clear ho5 hg5 hv5 hownT))
        · have hG0 := HG.out
          go_roundg (g0 - 1)
          case measure => omega
          case rel => exact ⟨i + 1, full, rl ++ [x], tl ++ [.slice (some ⟨gt, 0, none⟩) 4096 c3], Fl ++ [G], L2, own2, by omega, by go_num, rfl, H5.out.1, (by
            have hp := HI.out.plain
            have hk := HK.out
            have hh := G2.out
            have := hp.add HI.out.mem.mg.right (by rw [HOx.out]; exact hk) (by rw [HOx.out]; exact hh) (x := x) (by rw [HOx.out, ← HGx.out]; exact ht2)
            rw [HOx.out, ← HGx.out] at this
            exact this), H5.out.2⟩
        · have hG0 := HG.out
          go_roundg (g0 - 1)
          case measure => omega
          case rel => exact ⟨i + 1, full + 1, rl, tl, Fl, L2, own2, by omega, by go_num, by go_num, HI.out.fuller Q2.out M2.out HB3.out (by rw [HOx.out]; exact G2.out) hll⟩
      · have HDoes2 := Lib.hid (HDoes.out.mono fun e w' hr => d_not hr (by rw [HLen.out.1]; exact hk))
        have HDo2 : Hid (∀ own2 w2 L2, Went ow wr own2 w2 → Mg w2 own2 m lim L2 → Calls Try.prog 34 #[.slice At tl.length ct, .agg #[.int .i64 o.kind, .int .i64 o.v, .int .i64 o.a, .int .i64 o.b, .int .i64 o.c, .bool o.yes]] w2 (RetNo w2)) := Lib.hid fun own2 w2 L2 q2 m2 => (HDo.out own2 w2 L2 q2 m2).mono fun e w' hr => hr.elim (fun h => absurd h.1 (by rw [HLen.out.2.1]; exact hk)) (fun h => h.2)
        have HNk : Hid (¬ okP Fl.length (f i)) := Lib.hid (by rw [HOx.out]; exact hk)
        clear hk HDoes HDo
        go_wp2_with (first
          | (go_at_call 33; ((with_reducible refine HDoes2.out.mono ?_); rintro e w2 ⟨own2, rfl, m2, q2⟩); have hbx := q2.blk (Blk.new wr 31 #[.int .i64 o.kind, .int .i64 o.v, .int .i64 o.a, .int .i64 o.b, .int .i64 o.c, .bool o.yes]) HNew.out; have d0 : w2.cell? ⟨wr.heap.size, 0, none⟩ = some (.int .i64 o.kind) := hbx.cell 0; have d1 : w2.cell? ⟨wr.heap.size, 1, none⟩ = some (.int .i64 o.v) := hbx.cell 1; have d2 : w2.cell? ⟨wr.heap.size, 2, none⟩ = some (.int .i64 o.a) := hbx.cell 2; have d3 : w2.cell? ⟨wr.heap.size, 3, none⟩ = some (.int .i64 o.b) := hbx.cell 3; have d4 : w2.cell? ⟨wr.heap.size, 4, none⟩ = some (.int .i64 o.c) := hbx.cell 4; have d5 : w2.cell? ⟨wr.heap.size, 5, none⟩ = some (.bool o.yes) := hbx.cell 5; have M2 := Lib.hid m2; have Q2 := Lib.hid ((Went.of_below HBo.out ow).trans q2); clear m2 q2 hbx)
          | (go_at_call 34; ((with_reducible refine (HDo2.out _ _ _ Q2.out M2.out).mono ?_); rintro e w3 ⟨rfl, hb3⟩); have HB3 := Lib.hid hb3; clear hb3)
          | (go_at_call 26; ((with_reducible refine (is_self 1 _).mono ?_); rintro e w9 ⟨rfl, rfl⟩)))
        have hG0 := HG.out
        go_roundg (g0 - 1)
        case measure => omega
        case rel => exact ⟨i + 1, full, rl, tl, Fl, L, own2, by omega, by go_num, rfl, HI.out.skip HNk.out Q2.out M2.out HB3.out⟩
    · have hie : i = ml := by have := HG.out; omega
      subst hie
      go_wp2_with fail
      refine bodyPost_ret (v := .tuple #[u8, u9, .int .i64 full, .bool true]) (by simp [results, Try.results12, go_sem]) rfl ⟨full, rl, tl, Fl, L, ow, u8, u9, rfl, HI.out⟩
end
end Go.Proofs.Ytdgjbbcalffbcaa
