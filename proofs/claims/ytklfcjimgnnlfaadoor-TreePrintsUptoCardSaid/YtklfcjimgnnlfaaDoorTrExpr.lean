/- The tree layer: the law's Expr: the program's expression, of the document's. -/
import Derived.Test.YtklfcjimgnnlfaaDoorTrOwn
import Derived.Deep.RegionLaw
import Derived.Deep.DrawnRows
namespace Go.Proofs.YtklfcjimgnnlfaaDoor
open Go.RowKit
attribute [local go_sem ↓] Go.wp_at_zero Go.wp_at_succ
theorem einfo : (Tryd.prog.info? 52).map (fun i => (i.zero, i.size, i.bytes)) = some (some (.agg #[.string ⟨#[]⟩, .string ⟨#[]⟩, .int .i64 0, .slice none 0 0, .int .i64 0]), 5, 72) := by kernel_rfl
theorem news_five {w : World} {g : Nat} {t : TypeId} {a b c d e : Value} (h : Blk w g t #[a, b, c, d, e]) : ∀ (j : Nat) (u : Value), [a, b, c, d, e][j]? = some u → w.cell? ((⟨g, 0, none⟩ : Addr).add j) = some u := fun j u hu => by
  rw [Addr.add_lit, Nat.zero_add]
  exact (h.cell j).trans (by simpa using hu)
theorem one_five (a b : ByteArray) (c : Int) (A : Option Addr) (n cap : Nat) (d : Int) : ∀ u ∈ [Value.string a, Value.string b, Value.int .i64 c, Value.slice A n cap, Value.int .i64 d], u.oneCell' = true := by
  intro u hu
  simp at hu
  rcases hu with rfl | rfl | rfl | rfl | rfl <;> rfl
/-- While Expr goes: its result's box, the expression's own box, the row of parts so far. -/
structure XI (W : World) (op nm : ByteArray) (q a : Int) (n : Nat) (l : List Ex) (v : Value) (w : World) : Prop where
  low : Below W.heap.size W w
  b2 : Blk w (W.heap.size + 1) 52 #[.string ⟨#[]⟩, .string ⟨#[]⟩, .int .i64 0, .slice none 0 0, .int .i64 0]
  b3 : Blk w (W.heap.size + 1 + 1) 52 #[.string op, .string nm, .int .i64 q, v, .int .i64 a]
  own : OwnL (kEx n) 52 5 (W.heap.size + 1 + 1 + 1) w v l
/-- Behind the append, ahead of the store. -/
structure XA (W : World) (op nm : ByteArray) (q a : Int) (n : Nat) (l : List Ex) (v v' : Value) (w : World) : Prop where
  low : Below W.heap.size W w
  b2 : Blk w (W.heap.size + 1) 52 #[.string ⟨#[]⟩, .string ⟨#[]⟩, .int .i64 0, .slice none 0 0, .int .i64 0]
  b3 : Blk w (W.heap.size + 1 + 1) 52 #[.string op, .string nm, .int .i64 q, v, .int .i64 a]
  own : OwnL (kEx n) 52 5 (W.heap.size + 1 + 1 + 1) w v' l
section
variable {W w w' : World} {op nm : ByteArray} {q a : Int} {n : Nat} {l : List Ex} {v : Value}
theorem XI.below (h : XI W op nm q a n l v w) (hb : Below w.heap.size w w') : XI W op nm q a n l v w' := ⟨thru h.low hb, h.b2.below hb h.b2.lt, h.b3.below hb h.b3.lt, h.own.below hb⟩
theorem XI.base (h : XI W op nm q a n l v w) : W.heap.size + 1 + 1 + 1 ≤ w.heap.size := h.b3.lt
theorem XI.more {x : Ex} {k : Nat} {L : List Ex} {v' : Value} {cs : List Value} {css : List (List Value)} (h : XI W op nm q a n (L.take k) v w) (hx : L[k]? = some x) (h1 : css.length = (L.take k).length)
    (h3 : ∀ (i : Nat) (x : Ex) (cs : List Value), (L.take k)[i]? = some x → css[i]? = some cs → cs.length = 5 ∧ (kEx n).good (fun b => W.heap.size + 1 + 1 + 1 ≤ b ∧ b < w.heap.size ∧ v.ownBlock ≠ some b) w x cs)
    (h2 : w.ownsRow (W.heap.size + 1 + 1 + 1) 52 5 v k css.flatten)
    (ho : w'.ownsRow (W.heap.size + 1 + 1 + 1) 52 5 v' (k + 1) (css.flatten ++ cs)) (hg : w.grownBy w' v.ownBlock) (hv : v'.ownBlock = v.ownBlock ∨ v'.ownBlock = some w.heap.size)
    (hc : cs.length = 5 ∧ (kEx n).good (fun b => W.heap.size + 1 + 1 + 1 ≤ b ∧ b < w.heap.size ∧ v.ownBlock ≠ some b) w x cs) :
    XA W op nm q a n (L.take (k + 1)) v v' w' := by
  have hk : k < L.length := (List.getElem?_eq_some_iff.1 hx).1
  have hlen : (L.take k).length = k := by rw [List.length_take]; omega
  refine ⟨Below.grown h.low hg h.low.size (fun g e => by have := (h2.lt g e).1; omega), h.b2.grown hg (fun e => by have := (h2.lt _ e.symm).1; omega), h.b3.grown hg (fun e => by have := (h2.lt _ e.symm).1; omega), ?_⟩
  rw [take_one hx]
  exact OwnL.more h1 h3 (by rw [hlen]; exact ho) hg hv hc.1 hc.2
theorem OwnL.kept_ {α : Type} {κ : Kind α} {T : TypeId} {k base : Nat} {l : List α} (h : OwnL κ T k base w v l) (hk : ∀ b, base ≤ b → w'.heap[b]? = w.heap[b]?) (hs : w.heap.size ≤ w'.heap.size) : OwnL κ T k base w' v l := by
  obtain ⟨css, h1, h2, h3⟩ := h
  refine ⟨css, h1, ⟨h2.1, ?_⟩, fun i x cs hx hc => ⟨(h3 i x cs hx hc).1, κ.mono (fun b q => ⟨q.1, Nat.lt_of_lt_of_le q.2.1 hs, q.2.2⟩) (κ.kept (fun b q => hk b q.1) (h3 i x cs hx hc).2)⟩⟩
  rcases h2.2 with q | ⟨g, cap, cur, e1, e2, e3, r⟩
  · exact .inl q
  · exact .inr ⟨g, cap, cur, e1, e2, (hk g e2).trans e3, r⟩
theorem OwnL.set_ {α : Type} {κ : Kind α} {T : TypeId} {k base : Nat} {l : List α} (h : OwnL κ T k base w v l) (p : Addr) (u : Value) (hp : p.block < base) : OwnL κ T k base (w.setCell p u) v l :=
  h.kept_ (fun b hb => Below.heap_setCell _ _ _ _ (Nat.ne_of_gt (Nat.lt_of_lt_of_le hp hb))) (by simp [World.setCell])
theorem XA.put {v' : Value} (h : XA W op nm q a n l v v' w) : XI W op nm q a n l v' (w.setCell ⟨W.heap.size + 1 + 1, 3, none⟩ v') :=
  ⟨h.low.setCell (p := ⟨W.heap.size + 1 + 1, 3, none⟩) (Nat.le_trans (Nat.le_succ _) (Nat.le_succ _)) _, h.b2.far (Nat.ne_of_lt (Nat.lt_succ_self _)) _, h.b3.set_ 3 _, h.own.kept_ (fun b hb => Below.heap_setCell _ _ _ _ (Nat.ne_of_gt hb)) (by simp [World.setCell])⟩
theorem xi_new (W : World) (op nm : ByteArray) (q a : Int) (n : Nat) (o : Obj) : XI W op nm q a n [] (.slice none 0 0) (((W.alloc o).alloc (.cells #[.string ⟨#[]⟩, .string ⟨#[]⟩, .int .i64 0, .slice none 0 0, .int .i64 0] 52)).alloc (.cells #[.string op, .string nm, .int .i64 q, .slice none 0 0, .int .i64 a] 52)) := by
  have b1 : Below W.heap.size W (W.alloc o) := (Below.refl _ _).alloc (Nat.le_refl _) _
  have k2 := Blk.new (W.alloc o) 52 #[.string ⟨#[]⟩, .string ⟨#[]⟩, .int .i64 0, .slice none 0 0, .int .i64 0]
  have b2 : Below (W.alloc o).heap.size (W.alloc o) ((W.alloc o).alloc (.cells #[.string ⟨#[]⟩, .string ⟨#[]⟩, .int .i64 0, .slice none 0 0, .int .i64 0] 52)) := (Below.refl _ _).alloc (Nat.le_refl _) _
  have k3 := Blk.new ((W.alloc o).alloc (.cells #[.string ⟨#[]⟩, .string ⟨#[]⟩, .int .i64 0, .slice none 0 0, .int .i64 0] 52)) 52 #[.string op, .string nm, .int .i64 q, .slice none 0 0, .int .i64 a]
  have b3 : Below ((W.alloc o).alloc (.cells #[.string ⟨#[]⟩, .string ⟨#[]⟩, .int .i64 0, .slice none 0 0, .int .i64 0] 52)).heap.size ((W.alloc o).alloc (.cells #[.string ⟨#[]⟩, .string ⟨#[]⟩, .int .i64 0, .slice none 0 0, .int .i64 0] 52)) (((W.alloc o).alloc (.cells #[.string ⟨#[]⟩, .string ⟨#[]⟩, .int .i64 0, .slice none 0 0, .int .i64 0] 52)).alloc (.cells #[.string op, .string nm, .int .i64 q, .slice none 0 0, .int .i64 a] 52)) := (Below.refl _ _).alloc (Nat.le_refl _) _
  have k2' := k2.below b3 k2.lt
  simp only [World.size_alloc] at k2' k3
  exact ⟨thru (thru b1 b2) b3, k2', k3, OwnL.nil _ _⟩
/-- What Expr tells. -/
def RetEx (op nm : ByteArray) (q a : Int) (n : Nat) (l : List Ex) (W : World) (e : Ending) (w' : World) : Prop :=
  ∃ v, e = .returned (exV op nm q v a) ∧ ExR (fun b => W.heap.size ≤ b ∧ b < w'.heap.size) n w' l v ∧ Below W.heap.size W w'
set_option maxRecDepth 100000 in
set_option maxHeartbeats 6400000 in
theorem expr_any (n : Nat) : ∀ (l : List Ex) (op nm : ByteArray) (q a : Int) (v : Value) (P : Nat → Prop) (W : World), ExR P n W l v → (∀ b, P b → b < W.heap.size) → Calls Tryd.prog 48 #[exV op nm q v a] W (RetEx op nm q a n l W) := by
  induction n with
  | zero => intro l op nm q a v P W h; exact h.elim
  | succ n ih =>
    intro l op nm q a v P W h hP
    obtain ⟨A, cap, rfl, hc, hl, hat⟩ := h
    have HAt := Lib.hid hat
    have HIH := Lib.hid ih
    have HLim := Lib.hid hl
    have hl2 : l.length ≤ 2199023255552 := by omega
    obtain ⟨i0, hi0, hz0, hz1, hz2⟩ := info_parts einfo
    have HI0 := Lib.hid (And.intro hi0 (And.intro hz0 (And.intro hz1 hz2)))
    clear hat ih hl hi0 hz0 hz1 hz2
    obtain ⟨m, hm⟩ : ∃ m, l.length = m := ⟨_, rfl⟩
    have HM := Lib.hid hm
    rw [hm] at hl2 hc HLim
    unfold RetEx
    rw [hm]
    clear hm
    have HX0 := Lib.hid (xi_new W op nm q a n (.cells #[.string op, .string nm, .int .i64 q, .slice A m cap, .int .i64 a] 104))
    go_enter Tryd.func48, Tryd.ntmps48
    go_wp2
    go_loopw [18] (fun i wr => ∃ (k : Nat) (v : Value), i = .int .i64 (k : Int) ∧ k ≤ m ∧ XI W op nm q a n (l.take k) v wr) (fun i _ => m - (RowKit.intOf i).toNat)
    case atStart => exact ⟨0, .slice none 0 0, rfl, Nat.zero_le _, by rw [List.take_zero]; exact HX0.out⟩
    case round =>
      obtain ⟨k, v, rfl, hk, hxi⟩ := hrel
      have HXI := Lib.hid hxi
      clear hxi HX0
      by_cases hlt : k < m
      · obtain ⟨x, hx⟩ : ∃ x, l[k]? = some x := ⟨l[k]'(by rw [HM.out]; exact hlt), List.getElem?_eq_getElem _⟩
        obtain ⟨b, off, L, rfl, hbB, hat, hi1, hi2, hr⟩ := HAt.out k x hx
        have HIn := Lib.hid (And.intro hi1 hi2)
        obtain ⟨x0, x1, x2, x3, x4⟩ := hat.below HXI.out.low (hP b hbB)
        obtain ⟨A', cap', rfl, hc', -⟩ := hr.slice
        have HX := Lib.hid hx
        have HTl : Hid ((l.take k).length = k) := Lib.hid (by rw [List.length_take, HM.out]; omega)
        obtain ⟨W1, hW1⟩ : ∃ W1, W1 = wr.alloc (.cells #[.string x.op, .string x.nm, .int .i64 x.n, .slice A' x.l.length cap', .int .i64 x.a] 104) := ⟨_, rfl⟩
        have HB1 : Hid (Below wr.heap.size wr W1) := Lib.hid (by rw [hW1]; exact (Below.refl _ _).alloc (Nat.le_refl _) _)
        have KB1 : Hid (Blk W1 wr.heap.size 104 #[.string x.op, .string x.nm, .int .i64 x.n, .slice A' x.l.length cap', .int .i64 x.a]) := Lib.hid (by rw [hW1]; exact Blk.new wr _ _)
        have XW1 := Lib.hid (HXI.out.below HB1.out)
        have B1 : Hid (Below W1.heap.size W1 W1.drew) := Lib.hid (Below.refl _ _).drew
        have HVl := Lib.hid (fun g e => (HXI.out.own.lt g e).2)
        have HGt : Hid (W.heap.size + 1 + 1 < wr.heap.size) := Lib.hid HXI.out.base
        have HC : Hid (∀ w2, Below W1.heap.size W1 w2 → Calls Tryd.prog 48 #[exV x.op x.nm x.n (.slice A' x.l.length cap') x.a] w2 (fun e w' => ∃ L2, e = .returned (exV x.op x.nm x.n L2 x.a) ∧ ExR (fun b => w2.heap.size ≤ b ∧ b < w'.heap.size) n w' x.l L2 ∧ Below w2.heap.size w2 w')) := Lib.hid fun w2 hb2 => by
          have q := thru (thru HXI.out.low HB1.out) hb2
          exact HIH.out x.l _ _ _ _ _ P w2 (hr.below q hP) (lo_up hP q.size)
        have HS2 : Hid (∀ w', Blk w' wr.heap.size 104 #[.string x.op, .string x.nm, .int .i64 x.n, .slice A' x.l.length cap', .int .i64 x.a] → (w'.cell? ⟨wr.heap.size, 0, none⟩ = some (.string x.op) ∧ w'.cell? ⟨wr.heap.size, 1, none⟩ = some (.string x.nm) ∧ w'.cell? ⟨wr.heap.size, 2, none⟩ = some (.int .i64 x.n) ∧ w'.cell? ⟨wr.heap.size, 3, none⟩ = some (.slice A' x.l.length cap') ∧ w'.cell? ⟨wr.heap.size, 4, none⟩ = some (.int .i64 x.a))) := Lib.hid fun w' h => ⟨h.cell 0, h.cell 1, h.cell 2, h.cell 3, h.cell 4⟩
        have K1 := Lib.hid (HS2.out _ (KB1.out.below B1.out KB1.out.lt))
        have HW1 := Lib.hid hW1
        clear hat hr hi1 hi2 hx hW1
        go_wp2_with fail
        rw [← HW1.out]
        refine wp_region_held_drew (S := fun w' => w'.cell? ⟨wr.heap.size, 0, none⟩ = some (.string x.op) ∧ w'.cell? ⟨wr.heap.size, 1, none⟩ = some (.string x.nm) ∧ w'.cell? ⟨wr.heap.size, 2, none⟩ = some (.int .i64 x.n) ∧ w'.cell? ⟨wr.heap.size, 3, none⟩ = some (.slice A' x.l.length cap') ∧ w'.cell? ⟨wr.heap.size, 4, none⟩ = some (.int .i64 x.a)) (by kernel_rfl) K1.out (fun k0 => ?_)
        refine wpAnyH_take (i := 0) (oi := ⟨some 22, _, _, _, _, _⟩) (v := ?_) rfl (by kernel_rfl) (by kernel_rfl) (by kernel_rfl) (fun _ _ _ h => h) (Or.inl ⟨by rfl, ?_⟩) k0 ?_
        rotate_left
        · intro w hSw
          try dsimp only at hSw
          go_simp
          try with_reducible rfl
        try simp only [Act.put, List.setIfInBounds_toArray, List.set_cons_zero, List.set_cons_succ]
        refine wpAnyH_take (i := 2) (oi := ⟨some 24, _, _, _, _, _⟩) (v := ?_) rfl (by kernel_rfl) (by kernel_rfl) (by kernel_rfl) (fun _ _ _ h => h) (Or.inl ⟨by rfl, ?_⟩) k0 ?_
        rotate_left
        · intro w hSw
          try dsimp only at hSw
          go_simp
          try with_reducible rfl
        try simp only [Act.put, List.setIfInBounds_toArray, List.set_cons_zero, List.set_cons_succ]
        refine wpAnyH_ready (rs := [1, 3]) (by kernel_rfl) (by simp) ?_
        refine (AllReadyH.cons (o := ⟨some 23, _, _, _, _, _⟩) rfl (fun K' hK => ?_) (AllReadyH.cons (o := ⟨some 25, _, _, _, _, _⟩) rfl (fun K' hK => ?_) AllReadyH.nil))
        · have tf : W1.cell? ⟨W.heap.size + 1 + 1, 3, none⟩ = some v := XW1.out.b3.cell 3
          go_simp
          refine hK.out _ _ K1.out (fun h1 => ?_)
          clear hK K'
          try simp only [Act.put, List.setIfInBounds_toArray, List.set_cons_zero, List.set_cons_succ]
          clear tf
          refine wpAnyH_ready (rs := [3]) (by kernel_rfl) (by simp) ?_
          refine (AllReadyH.cons (o := ⟨some 25, _, _, _, _, _⟩) rfl (fun K' hK => ?_) AllReadyH.nil)
          go_simp
          refine (HC.out _ B1.out).mono ?_
          rintro e w2 ⟨L2, rfl, hL2, hb⟩
          have B2 : Hid (Below W1.heap.size W1 w2) := Lib.hid (thru B1.out hb)
          have Xw2 := Lib.hid (XW1.out.below B2.out)
          have KB2 := Lib.hid (KB1.out.below B2.out KB1.out.lt)
          have K2 := Lib.hid (HS2.out _ KB2.out)
          have HL2 := Lib.hid hL2
          obtain ⟨A2, c2, rfl, -, -⟩ := hL2.slice
          clear hb hL2
          go_wp2_with fail
          refine hK.out _ _ K2.out (fun h2 => ?_)
          clear hK K'
          try simp only [Act.put, List.setIfInBounds_toArray, List.set_cons_zero, List.set_cons_succ]
          refine wpAnyH_ready (rs := [4]) (by kernel_rfl) (by simp) ?_
          refine (AllReadyH.cons (o := ⟨some 26, _, _, _, _, _⟩) rfl (fun K' hK => ?_) AllReadyH.nil)
          have B3 : Hid (Below w2.heap.size w2 (w2.alloc (.cells #[.string x.op, .string x.nm, .int .i64 x.n, .slice A2 x.l.length c2, .int .i64 x.a] 52))) := Lib.hid ((Below.refl _ _).alloc (Nat.le_refl _) _)
          have X3 := Lib.hid (Xw2.out.below B3.out)
          have KB3 := Lib.hid (KB2.out.below B3.out KB2.out.lt)
          have K3 := Lib.hid (HS2.out _ KB3.out)
          have N3 := Lib.hid (Blk.new w2 52 #[.string x.op, .string x.nm, .int .i64 x.n, .slice A2 x.l.length c2, .int .i64 x.a])
          go_simp
          refine hK.out _ _ K3.out (fun h3 => ?_)
          clear hK K'
          try simp only [Act.put, List.setIfInBounds_toArray, List.set_cons_zero, List.set_cons_succ]
          refine wpAnyH_ready (rs := [5]) (by kernel_rfl) (by simp) ?_
          refine (AllReadyH.cons (o := ⟨some 27, _, _, _, _, _⟩) rfl (fun K' hK => ?_) AllReadyH.nil)
          obtain ⟨css, hcs1, hcs2, hcs3⟩ := X3.out.own
          have hcs4 := hcs2
          rw [HTl.out] at hcs2
          rw [if_pos (by rfl)]
          have hgood : [Value.string x.op, .string x.nm, .int .i64 x.n, .slice A2 x.l.length c2, .int .i64 x.a].length = 5 ∧ (kEx n).good (fun b => W.heap.size + 1 + 1 + 1 ≤ b ∧ b < (w2.alloc (.cells #[.string x.op, .string x.nm, .int .i64 x.n, .slice A2 x.l.length c2, .int .i64 x.a] 52)).heap.size ∧ v.ownBlock ≠ some b) (w2.alloc (.cells #[.string x.op, .string x.nm, .int .i64 x.n, .slice A2 x.l.length c2, .int .i64 x.a] 52)) x [.string x.op, .string x.nm, .int .i64 x.n, .slice A2 x.l.length c2, .int .i64 x.a] :=
            ⟨rfl, _, rfl, HIn.out.1, HIn.out.2, (HL2.out.below B3.out (fun b q => q.2)).wide (fun b q => ⟨Nat.le_trans XW1.out.base q.1, Nat.lt_of_lt_of_le q.2 B3.out.size, fun e => absurd (XW1.out.own.lt b e).2 (Nat.not_lt.2 q.1)⟩)⟩
          refine wp_append_at (.tmp 23) (.tmp 26) 50 rfl (W.heap.size + 1 + 1 + 1) 52 i0 (.agg #[.string ⟨#[]⟩, .string ⟨#[]⟩, .int .i64 0, .slice none 0 0, .int .i64 0]) 5 72 Tryd.underlying50 HI0.out.1 HI0.out.2.1 HI0.out.2.2.1 HI0.out.2.2.2 rfl (by decide) v k css.flatten rfl hcs2 ⟨w2.heap.size, 0, none⟩ 1 1 [.string x.op, .string x.nm, .int .i64 x.n, .slice A2 x.l.length c2, .int .i64 x.a] rfl rfl (news_five N3.out) (one_five _ _ _ _ _ _ _) (by unfold maxLen; omega) (by have := HLim.out; omega) X3.out.base ?_
          intro v5 w5 ho hg hv
          have X5 := Lib.hid (X3.out.more HX.out hcs1 hcs3 hcs2 ho hg hv hgood)
          have KB5 : Hid (Blk w5 wr.heap.size 104 #[.string x.op, .string x.nm, .int .i64 x.n, .slice A' x.l.length cap', .int .i64 x.a]) := Lib.hid (KB3.out.grown hg (fun e => absurd (HVl.out _ e.symm) (Nat.lt_irrefl _)))
          have K5 := Lib.hid (HS2.out _ KB5.out)
          obtain ⟨A5, c5, rfl⟩ : ∃ A5 c5, v5 = .slice A5 (k + 1) c5 := by
            rcases ho.2 with ⟨_, h0⟩ | ⟨g, cap, cur, e, _⟩
            · omega
            · exact ⟨_, _, e⟩
          clear ho hg hv hcs1 hcs2 hcs3 hcs4 hgood
          refine hK.out _ _ K5.out (fun h5 => ?_)
          clear hK K'
          try simp only [Act.put, List.setIfInBounds_toArray, List.set_cons_zero, List.set_cons_succ]
          refine wpAnyH_take (i := 6) (oi := ⟨some 28, _, _, _, _, _⟩) (v := ?_) rfl (by kernel_rfl) (by kernel_rfl) (by kernel_rfl) (fun _ _ _ h => h) (Or.inl ⟨by rfl, ?_⟩) h5 ?_
          rotate_left
          · intro w hSw
            try dsimp only at hSw
            go_simp
            try with_reducible rfl
          try simp only [Act.put, List.setIfInBounds_toArray, List.set_cons_zero, List.set_cons_succ]
          refine wpAnyH_ready (rs := [7]) (by kernel_rfl) (by simp) ?_
          refine (AllReadyH.cons (o := ⟨none, _, _, _, _, _⟩) rfl (fun K' hK => ?_) AllReadyH.nil)
          have t0 := X5.out.b3.cell 3
          have t1 := X5.out.b3.frozen 3
          have t2 := X5.out.b3.lt
          simp at t0
          have K6 := Lib.hid (HS2.out _ (KB5.out.far (p := ⟨W.heap.size + 1 + 1, 3, none⟩) (Nat.ne_of_gt HGt.out) (.slice A5 (k + 1) c5)))
          go_simp
          refine hK.out _ _ K6.out (fun h6 => ?_)
          clear hK K'
          try simp only [Act.put, List.setIfInBounds_toArray, List.set_cons_zero, List.set_cons_succ]
          clear t0 t1 t2
          refine wpAnyH_done (by kernel_rfl) ?_ _
          have X6 := Lib.hid (X5.out.put)
          obtain ⟨w6, hw6⟩ : ∃ x, w5.setCell ⟨W.heap.size + 1 + 1, 3, none⟩ (.slice A5 (k + 1) c5) = x := ⟨_, rfl⟩
          rw [hw6] at X6 ⊢
          clear hw6
          go_wp2_with fail
          go_roundw
          case rel => exact ⟨k + 1, .slice A5 (k + 1) c5, by go_num, hlt, X6.out⟩
          case measure => simp [RowKit.intOf]; omega
        · go_simp
          refine (HC.out _ B1.out).mono ?_
          rintro e w2 ⟨L2, rfl, hL2, hb⟩
          have B2 : Hid (Below W1.heap.size W1 w2) := Lib.hid (thru B1.out hb)
          have Xw2 := Lib.hid (XW1.out.below B2.out)
          have KB2 := Lib.hid (KB1.out.below B2.out KB1.out.lt)
          have K2 := Lib.hid (HS2.out _ KB2.out)
          have HL2 := Lib.hid hL2
          obtain ⟨A2, c2, rfl, -, -⟩ := hL2.slice
          clear hb hL2
          go_wp2_with fail
          refine hK.out _ _ K2.out (fun h2 => ?_)
          clear hK K'
          try simp only [Act.put, List.setIfInBounds_toArray, List.set_cons_zero, List.set_cons_succ]
          refine wpAnyH_ready (rs := [1, 4]) (by kernel_rfl) (by simp) ?_
          refine (AllReadyH.cons (o := ⟨some 23, _, _, _, _, _⟩) rfl (fun K' hK => ?_) (AllReadyH.cons (o := ⟨some 26, _, _, _, _, _⟩) rfl (fun K' hK => ?_) AllReadyH.nil))
          · have tf : w2.cell? ⟨W.heap.size + 1 + 1, 3, none⟩ = some v := Xw2.out.b3.cell 3
            go_simp
            refine hK.out _ _ K2.out (fun h3 => ?_)
            clear hK K'
            try simp only [Act.put, List.setIfInBounds_toArray, List.set_cons_zero, List.set_cons_succ]
            clear tf
            refine wpAnyH_ready (rs := [4]) (by kernel_rfl) (by simp) ?_
            refine (AllReadyH.cons (o := ⟨some 26, _, _, _, _, _⟩) rfl (fun K' hK => ?_) AllReadyH.nil)
            have B3 : Hid (Below w2.heap.size w2 (w2.alloc (.cells #[.string x.op, .string x.nm, .int .i64 x.n, .slice A2 x.l.length c2, .int .i64 x.a] 52))) := Lib.hid ((Below.refl _ _).alloc (Nat.le_refl _) _)
            have X3 := Lib.hid (Xw2.out.below B3.out)
            have KB3 := Lib.hid (KB2.out.below B3.out KB2.out.lt)
            have K3 := Lib.hid (HS2.out _ KB3.out)
            have N3 := Lib.hid (Blk.new w2 52 #[.string x.op, .string x.nm, .int .i64 x.n, .slice A2 x.l.length c2, .int .i64 x.a])
            go_simp
            refine hK.out _ _ K3.out (fun h4 => ?_)
            clear hK K'
            try simp only [Act.put, List.setIfInBounds_toArray, List.set_cons_zero, List.set_cons_succ]
            refine wpAnyH_ready (rs := [5]) (by kernel_rfl) (by simp) ?_
            refine (AllReadyH.cons (o := ⟨some 27, _, _, _, _, _⟩) rfl (fun K' hK => ?_) AllReadyH.nil)
            obtain ⟨css, hcs1, hcs2, hcs3⟩ := X3.out.own
            have hcs4 := hcs2
            rw [HTl.out] at hcs2
            rw [if_pos (by rfl)]
            have hgood : [Value.string x.op, .string x.nm, .int .i64 x.n, .slice A2 x.l.length c2, .int .i64 x.a].length = 5 ∧ (kEx n).good (fun b => W.heap.size + 1 + 1 + 1 ≤ b ∧ b < (w2.alloc (.cells #[.string x.op, .string x.nm, .int .i64 x.n, .slice A2 x.l.length c2, .int .i64 x.a] 52)).heap.size ∧ v.ownBlock ≠ some b) (w2.alloc (.cells #[.string x.op, .string x.nm, .int .i64 x.n, .slice A2 x.l.length c2, .int .i64 x.a] 52)) x [.string x.op, .string x.nm, .int .i64 x.n, .slice A2 x.l.length c2, .int .i64 x.a] :=
              ⟨rfl, _, rfl, HIn.out.1, HIn.out.2, (HL2.out.below B3.out (fun b q => q.2)).wide (fun b q => ⟨Nat.le_trans XW1.out.base q.1, Nat.lt_of_lt_of_le q.2 B3.out.size, fun e => absurd (XW1.out.own.lt b e).2 (Nat.not_lt.2 q.1)⟩)⟩
            refine wp_append_at (.tmp 23) (.tmp 26) 50 rfl (W.heap.size + 1 + 1 + 1) 52 i0 (.agg #[.string ⟨#[]⟩, .string ⟨#[]⟩, .int .i64 0, .slice none 0 0, .int .i64 0]) 5 72 Tryd.underlying50 HI0.out.1 HI0.out.2.1 HI0.out.2.2.1 HI0.out.2.2.2 rfl (by decide) v k css.flatten rfl hcs2 ⟨w2.heap.size, 0, none⟩ 1 1 [.string x.op, .string x.nm, .int .i64 x.n, .slice A2 x.l.length c2, .int .i64 x.a] rfl rfl (news_five N3.out) (one_five _ _ _ _ _ _ _) (by unfold maxLen; omega) (by have := HLim.out; omega) X3.out.base ?_
            intro v5 w5 ho hg hv
            have X5 := Lib.hid (X3.out.more HX.out hcs1 hcs3 hcs2 ho hg hv hgood)
            have KB5 : Hid (Blk w5 wr.heap.size 104 #[.string x.op, .string x.nm, .int .i64 x.n, .slice A' x.l.length cap', .int .i64 x.a]) := Lib.hid (KB3.out.grown hg (fun e => absurd (HVl.out _ e.symm) (Nat.lt_irrefl _)))
            have K5 := Lib.hid (HS2.out _ KB5.out)
            obtain ⟨A5, c5, rfl⟩ : ∃ A5 c5, v5 = .slice A5 (k + 1) c5 := by
              rcases ho.2 with ⟨_, h0⟩ | ⟨g, cap, cur, e, _⟩
              · omega
              · exact ⟨_, _, e⟩
            clear ho hg hv hcs1 hcs2 hcs3 hcs4 hgood
            refine hK.out _ _ K5.out (fun h5 => ?_)
            clear hK K'
            try simp only [Act.put, List.setIfInBounds_toArray, List.set_cons_zero, List.set_cons_succ]
            refine wpAnyH_take (i := 6) (oi := ⟨some 28, _, _, _, _, _⟩) (v := ?_) rfl (by kernel_rfl) (by kernel_rfl) (by kernel_rfl) (fun _ _ _ h => h) (Or.inl ⟨by rfl, ?_⟩) h5 ?_
            rotate_left
            · intro w hSw
              try dsimp only at hSw
              go_simp
              try with_reducible rfl
            try simp only [Act.put, List.setIfInBounds_toArray, List.set_cons_zero, List.set_cons_succ]
            refine wpAnyH_ready (rs := [7]) (by kernel_rfl) (by simp) ?_
            refine (AllReadyH.cons (o := ⟨none, _, _, _, _, _⟩) rfl (fun K' hK => ?_) AllReadyH.nil)
            have t0 := X5.out.b3.cell 3
            have t1 := X5.out.b3.frozen 3
            have t2 := X5.out.b3.lt
            simp at t0
            have K6 := Lib.hid (HS2.out _ (KB5.out.far (p := ⟨W.heap.size + 1 + 1, 3, none⟩) (Nat.ne_of_gt HGt.out) (.slice A5 (k + 1) c5)))
            go_simp
            refine hK.out _ _ K6.out (fun h6 => ?_)
            clear hK K'
            try simp only [Act.put, List.setIfInBounds_toArray, List.set_cons_zero, List.set_cons_succ]
            clear t0 t1 t2
            refine wpAnyH_done (by kernel_rfl) ?_ _
            have X6 := Lib.hid (X5.out.put)
            obtain ⟨w6, hw6⟩ : ∃ x, w5.setCell ⟨W.heap.size + 1 + 1, 3, none⟩ (.slice A5 (k + 1) c5) = x := ⟨_, rfl⟩
            rw [hw6] at X6 ⊢
            clear hw6
            go_wp2_with fail
            go_roundw
            case rel => exact ⟨k + 1, .slice A5 (k + 1) c5, by go_num, hlt, X6.out⟩
            case measure => simp [RowKit.intOf]; omega
          · have B3 : Hid (Below w2.heap.size w2 (w2.alloc (.cells #[.string x.op, .string x.nm, .int .i64 x.n, .slice A2 x.l.length c2, .int .i64 x.a] 52))) := Lib.hid ((Below.refl _ _).alloc (Nat.le_refl _) _)
            have X3 := Lib.hid (Xw2.out.below B3.out)
            have KB3 := Lib.hid (KB2.out.below B3.out KB2.out.lt)
            have K3 := Lib.hid (HS2.out _ KB3.out)
            have N3 := Lib.hid (Blk.new w2 52 #[.string x.op, .string x.nm, .int .i64 x.n, .slice A2 x.l.length c2, .int .i64 x.a])
            go_simp
            refine hK.out _ _ K3.out (fun h3 => ?_)
            clear hK K'
            try simp only [Act.put, List.setIfInBounds_toArray, List.set_cons_zero, List.set_cons_succ]
            refine wpAnyH_ready (rs := [1]) (by kernel_rfl) (by simp) ?_
            refine (AllReadyH.cons (o := ⟨some 23, _, _, _, _, _⟩) rfl (fun K' hK => ?_) AllReadyH.nil)
            have tf : (w2.alloc (.cells #[.string x.op, .string x.nm, .int .i64 x.n, .slice A2 x.l.length c2, .int .i64 x.a] 52)).cell? ⟨W.heap.size + 1 + 1, 3, none⟩ = some v := X3.out.b3.cell 3
            go_simp
            refine hK.out _ _ K3.out (fun h4 => ?_)
            clear hK K'
            try simp only [Act.put, List.setIfInBounds_toArray, List.set_cons_zero, List.set_cons_succ]
            clear tf
            refine wpAnyH_ready (rs := [5]) (by kernel_rfl) (by simp) ?_
            refine (AllReadyH.cons (o := ⟨some 27, _, _, _, _, _⟩) rfl (fun K' hK => ?_) AllReadyH.nil)
            obtain ⟨css, hcs1, hcs2, hcs3⟩ := X3.out.own
            have hcs4 := hcs2
            rw [HTl.out] at hcs2
            rw [if_pos (by rfl)]
            have hgood : [Value.string x.op, .string x.nm, .int .i64 x.n, .slice A2 x.l.length c2, .int .i64 x.a].length = 5 ∧ (kEx n).good (fun b => W.heap.size + 1 + 1 + 1 ≤ b ∧ b < (w2.alloc (.cells #[.string x.op, .string x.nm, .int .i64 x.n, .slice A2 x.l.length c2, .int .i64 x.a] 52)).heap.size ∧ v.ownBlock ≠ some b) (w2.alloc (.cells #[.string x.op, .string x.nm, .int .i64 x.n, .slice A2 x.l.length c2, .int .i64 x.a] 52)) x [.string x.op, .string x.nm, .int .i64 x.n, .slice A2 x.l.length c2, .int .i64 x.a] :=
              ⟨rfl, _, rfl, HIn.out.1, HIn.out.2, (HL2.out.below B3.out (fun b q => q.2)).wide (fun b q => ⟨Nat.le_trans XW1.out.base q.1, Nat.lt_of_lt_of_le q.2 B3.out.size, fun e => absurd (XW1.out.own.lt b e).2 (Nat.not_lt.2 q.1)⟩)⟩
            refine wp_append_at (.tmp 23) (.tmp 26) 50 rfl (W.heap.size + 1 + 1 + 1) 52 i0 (.agg #[.string ⟨#[]⟩, .string ⟨#[]⟩, .int .i64 0, .slice none 0 0, .int .i64 0]) 5 72 Tryd.underlying50 HI0.out.1 HI0.out.2.1 HI0.out.2.2.1 HI0.out.2.2.2 rfl (by decide) v k css.flatten rfl hcs2 ⟨w2.heap.size, 0, none⟩ 1 1 [.string x.op, .string x.nm, .int .i64 x.n, .slice A2 x.l.length c2, .int .i64 x.a] rfl rfl (news_five N3.out) (one_five _ _ _ _ _ _ _) (by unfold maxLen; omega) (by have := HLim.out; omega) X3.out.base ?_
            intro v5 w5 ho hg hv
            have X5 := Lib.hid (X3.out.more HX.out hcs1 hcs3 hcs2 ho hg hv hgood)
            have KB5 : Hid (Blk w5 wr.heap.size 104 #[.string x.op, .string x.nm, .int .i64 x.n, .slice A' x.l.length cap', .int .i64 x.a]) := Lib.hid (KB3.out.grown hg (fun e => absurd (HVl.out _ e.symm) (Nat.lt_irrefl _)))
            have K5 := Lib.hid (HS2.out _ KB5.out)
            obtain ⟨A5, c5, rfl⟩ : ∃ A5 c5, v5 = .slice A5 (k + 1) c5 := by
              rcases ho.2 with ⟨_, h0⟩ | ⟨g, cap, cur, e, _⟩
              · omega
              · exact ⟨_, _, e⟩
            clear ho hg hv hcs1 hcs2 hcs3 hcs4 hgood
            refine hK.out _ _ K5.out (fun h5 => ?_)
            clear hK K'
            try simp only [Act.put, List.setIfInBounds_toArray, List.set_cons_zero, List.set_cons_succ]
            refine wpAnyH_take (i := 6) (oi := ⟨some 28, _, _, _, _, _⟩) (v := ?_) rfl (by kernel_rfl) (by kernel_rfl) (by kernel_rfl) (fun _ _ _ h => h) (Or.inl ⟨by rfl, ?_⟩) h5 ?_
            rotate_left
            · intro w hSw
              try dsimp only at hSw
              go_simp
              try with_reducible rfl
            try simp only [Act.put, List.setIfInBounds_toArray, List.set_cons_zero, List.set_cons_succ]
            refine wpAnyH_ready (rs := [7]) (by kernel_rfl) (by simp) ?_
            refine (AllReadyH.cons (o := ⟨none, _, _, _, _, _⟩) rfl (fun K' hK => ?_) AllReadyH.nil)
            have t0 := X5.out.b3.cell 3
            have t1 := X5.out.b3.frozen 3
            have t2 := X5.out.b3.lt
            simp at t0
            have K6 := Lib.hid (HS2.out _ (KB5.out.far (p := ⟨W.heap.size + 1 + 1, 3, none⟩) (Nat.ne_of_gt HGt.out) (.slice A5 (k + 1) c5)))
            go_simp
            refine hK.out _ _ K6.out (fun h6 => ?_)
            clear hK K'
            try simp only [Act.put, List.setIfInBounds_toArray, List.set_cons_zero, List.set_cons_succ]
            clear t0 t1 t2
            refine wpAnyH_done (by kernel_rfl) ?_ _
            have X6 := Lib.hid (X5.out.put)
            obtain ⟨w6, hw6⟩ : ∃ x, w5.setCell ⟨W.heap.size + 1 + 1, 3, none⟩ (.slice A5 (k + 1) c5) = x := ⟨_, rfl⟩
            rw [hw6] at X6 ⊢
            clear hw6
            go_wp2_with fail
            go_roundw
            case rel => exact ⟨k + 1, .slice A5 (k + 1) c5, by go_num, hlt, X6.out⟩
            case measure => simp [RowKit.intOf]; omega
      · have he : k = m := by omega
        subst he
        have t0 := HXI.out.b3.cell 0
        have t1 := HXI.out.b3.cell 1
        have t2 := HXI.out.b3.cell 2
        have t3 := HXI.out.b3.cell 3
        have t4 := HXI.out.b3.cell 4
        have hT : l.take k = l := by rw [← HM.out, List.take_length]
        rw [hT] at HXI
        clear hT
        have u0 := HXI.out.b2.frozen 0
        have u1 := HXI.out.b2.frozen 1
        have u2 := HXI.out.b2.frozen 2
        have u3 := HXI.out.b2.frozen 3
        have u4 := HXI.out.b2.frozen 4
        have ul := HXI.out.b2.lt
        have v0 := HXI.out.b2.cell 0
        have v1 := HXI.out.b2.cell 1
        have v2 := HXI.out.b2.cell 2
        have v3 := HXI.out.b2.cell 3
        have v4 := HXI.out.b2.cell 4
        obtain ⟨A9, c9, rfl⟩ : ∃ A9 c9, v = .slice A9 k c9 := by
          obtain ⟨A9, c9, e, -⟩ := HXI.out.own.row
          rw [HM.out] at e
          exact ⟨_, _, e⟩
        simp at t0 t1 t2 t3 t4 v0 v1 v2 v3 v4
        go_wp2_with fail
        have K9 := (((((HXI.out.b2.set_ 0 (.string op)).set_ 1 (.string nm)).set_ 2 (.int .i64 q)).set_ 3 (.slice A9 k c9)).set_ 4 (.int .i64 a))
        have q0 := K9.cell 0
        have q1 := K9.cell 1
        have q2 := K9.cell 2
        have q3 := K9.cell 3
        have q4 := K9.cell 4
        simp at q0 q1 q2 q3 q4
        refine bodyPost_ret (v := exV op nm q (.slice A9 k c9) a) (by simp [results, Tryd.results48, go_sem, q0, q1, q2, q3, q4]) rfl ⟨.slice A9 k c9, rfl, ?_, ?_⟩
        · have z1 := (((((HXI.out.own.set_ ⟨W.heap.size + 1, 0, none⟩ (.string op) (Nat.lt_succ_of_lt (Nat.lt_succ_self _))).set_ ⟨W.heap.size + 1, 1, none⟩ (.string nm) (Nat.lt_succ_of_lt (Nat.lt_succ_self _))).set_ ⟨W.heap.size + 1, 2, none⟩ (.int .i64 q) (Nat.lt_succ_of_lt (Nat.lt_succ_self _))).set_ ⟨W.heap.size + 1, 3, none⟩ (.slice A9 k c9) (Nat.lt_succ_of_lt (Nat.lt_succ_self _))).set_ ⟨W.heap.size + 1, 4, none⟩ (.int .i64 a) (Nat.lt_succ_of_lt (Nat.lt_succ_self _)))
          exact (own_ex z1 (by rw [HM.out]; exact HLim.out)).wide (fun b q => ⟨Nat.le_trans (Nat.le_trans (Nat.le_succ _) (Nat.le_trans (Nat.le_succ _) (Nat.le_succ _))) q.1, q.2⟩)
        · exact ((((HXI.out.low.setCell (p := ⟨W.heap.size + 1, 0, none⟩) (Nat.le_succ _) _).setCell (p := ⟨W.heap.size + 1, 1, none⟩) (Nat.le_succ _) _).setCell (p := ⟨W.heap.size + 1, 2, none⟩) (Nat.le_succ _) _).setCell (p := ⟨W.heap.size + 1, 3, none⟩) (Nat.le_succ _) _).setCell (p := ⟨W.heap.size + 1, 4, none⟩) (Nat.le_succ _) _
end
end Go.Proofs.YtklfcjimgnnlfaaDoor
