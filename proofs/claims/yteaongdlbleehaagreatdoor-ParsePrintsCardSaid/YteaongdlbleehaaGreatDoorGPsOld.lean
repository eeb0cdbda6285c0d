/- Put together of: PsOldE, PsOldS, PsOldG, PsOldP. -/
import Derived.Deep.RegionLaw
import Derived.Deep.DrawnRows
import Derived.Test.YteaongdlbleehaaGreatDoorGTrNum
import Derived.Deep.DeepCutAuto
import Derived.Test.YteaongdlbleehaaGreatDoorTrProgS
/- The parse layer: the document's tree of the program's (TrExpr turned). -/
namespace Go.Proofs.YteaongdlbleehaaGreatDoor.Old
open Go.Proofs.YteaongdlbleehaaGreatDoor
open Go.RowKit
attribute [local go_sem ↓] Go.wp_at_zero Go.wp_at_succ
theorem einfo : (Tryz.prog.info? 118).map (fun i => (i.zero, i.size, i.bytes)) = some (some (.agg #[.string ⟨#[]⟩, .string ⟨#[]⟩, .int .i64 0, .slice none 0 0, .int .i64 0]), 5, 72) := by kernel_rfl
theorem news_five {w : World} {g : Nat} {t : TypeId} {a b c d e : Value} (h : Blk w g t #[a, b, c, d, e]) : ∀ (j : Nat) (u : Value), [a, b, c, d, e][j]? = some u → w.cell? ((⟨g, 0, none⟩ : Addr).add j) = some u := fun j u hu => by
  rw [Addr.add_lit, Nat.zero_add]
  exact (h.cell j).trans (by simpa using hu)
theorem one_five (a b : ByteArray) (c : Int) (A : Option Addr) (n cap : Nat) (d : Int) : ∀ u ∈ [Value.string a, Value.string b, Value.int .i64 c, Value.slice A n cap, Value.int .i64 d], u.oneCell' = true := by
  intro u hu
  simp at hu
  rcases hu with rfl | rfl | rfl | rfl | rfl <;> rfl
/-- While Expr goes: its result's box, the expression's own box, the row of parts so far. -/
structure XI (W : World) (op nm : ByteArray) (q a : Int) (n : Nat) (l : List Ex) (v : Value) (w : World) : Prop where
  low : Below W.heap.size W w
  b2 : Blk w (W.heap.size + 1) 118 #[.string ⟨#[]⟩, .string ⟨#[]⟩, .int .i64 0, .slice none 0 0, .int .i64 0]
  b3 : Blk w (W.heap.size + 1 + 1) 118 #[.string op, .string nm, .int .i64 q, v, .int .i64 a]
  own : OwnL (kEx n) 118 5 (W.heap.size + 1 + 1 + 1) w v l
/-- Behind the append, ahead of the store. -/
structure XA (W : World) (op nm : ByteArray) (q a : Int) (n : Nat) (l : List Ex) (v v' : Value) (w : World) : Prop where
  low : Below W.heap.size W w
  b2 : Blk w (W.heap.size + 1) 118 #[.string ⟨#[]⟩, .string ⟨#[]⟩, .int .i64 0, .slice none 0 0, .int .i64 0]
  b3 : Blk w (W.heap.size + 1 + 1) 118 #[.string op, .string nm, .int .i64 q, v, .int .i64 a]
  own : OwnL (kEx n) 118 5 (W.heap.size + 1 + 1 + 1) w v' l
section
variable {W w w' : World} {op nm : ByteArray} {q a : Int} {n : Nat} {l : List Ex} {v : Value}
theorem XI.below (h : XI W op nm q a n l v w) (hb : Below w.heap.size w w') : XI W op nm q a n l v w' := ⟨thru h.low hb, h.b2.below hb h.b2.lt, h.b3.below hb h.b3.lt, h.own.below hb⟩
theorem XI.base (h : XI W op nm q a n l v w) : W.heap.size + 1 + 1 + 1 ≤ w.heap.size := h.b3.lt
theorem XI.more {x : Ex} {k : Nat} {L : List Ex} {v' : Value} {cs : List Value} {css : List (List Value)} (h : XI W op nm q a n (L.take k) v w) (hx : L[k]? = some x) (h1 : css.length = (L.take k).length)
    (h3 : ∀ (i : Nat) (x : Ex) (cs : List Value), (L.take k)[i]? = some x → css[i]? = some cs → cs.length = 5 ∧ (kEx n).good (fun b => W.heap.size + 1 + 1 + 1 ≤ b ∧ b < w.heap.size ∧ v.ownBlock ≠ some b) w x cs)
    (h2 : w.ownsRow (W.heap.size + 1 + 1 + 1) 118 5 v k css.flatten)
    (ho : w'.ownsRow (W.heap.size + 1 + 1 + 1) 118 5 v' (k + 1) (css.flatten ++ cs)) (hg : w.grownBy w' v.ownBlock) (hv : v'.ownBlock = v.ownBlock ∨ v'.ownBlock = some w.heap.size)
    (hc : cs.length = 5 ∧ (kEx n).good (fun b => W.heap.size + 1 + 1 + 1 ≤ b ∧ b < w.heap.size ∧ v.ownBlock ≠ some b) w x cs) :
    XA W op nm q a n (L.take (k + 1)) v v' w' := by
  have hk : k < L.length := (List.getElem?_eq_some_iff.1 hx).1
  have hlen : (L.take k).length = k := by rw [List.length_take]; omega
  refine ⟨Below.grown h.low hg h.low.size (fun g e => by have := (h2.lt g e).1; omega), h.b2.grown hg (fun e => by have := (h2.lt _ e.symm).1; omega), h.b3.grown hg (fun e => by have := (h2.lt _ e.symm).1; omega), ?_⟩
  rw [take_one hx]
  exact OwnL.more h1 h3 (by rw [hlen]; exact ho) hg hv hc.1 hc.2
theorem XA.put {v' : Value} (h : XA W op nm q a n l v v' w) : XI W op nm q a n l v' (w.setCell ⟨W.heap.size + 1 + 1, 3, none⟩ v') :=
  ⟨h.low.setCell (p := ⟨W.heap.size + 1 + 1, 3, none⟩) (Nat.le_trans (Nat.le_succ _) (Nat.le_succ _)) _, h.b2.far (Nat.ne_of_lt (Nat.lt_succ_self _)) _, h.b3.set_ 3 _, h.own.kept_ (fun b hb => Below.heap_setCell _ _ _ _ (Nat.ne_of_gt hb)) (by simp [World.setCell])⟩
theorem xi_new (W : World) (op nm : ByteArray) (q a : Int) (n : Nat) (o : Obj) : XI W op nm q a n [] (.slice none 0 0) (((W.alloc o).alloc (.cells #[.string ⟨#[]⟩, .string ⟨#[]⟩, .int .i64 0, .slice none 0 0, .int .i64 0] 118)).alloc (.cells #[.string op, .string nm, .int .i64 q, .slice none 0 0, .int .i64 a] 118)) := by
  have b1 : Below W.heap.size W (W.alloc o) := (Below.refl _ _).alloc (Nat.le_refl _) _
  have k2 := Blk.new (W.alloc o) 118 #[.string ⟨#[]⟩, .string ⟨#[]⟩, .int .i64 0, .slice none 0 0, .int .i64 0]
  have b2 : Below (W.alloc o).heap.size (W.alloc o) ((W.alloc o).alloc (.cells #[.string ⟨#[]⟩, .string ⟨#[]⟩, .int .i64 0, .slice none 0 0, .int .i64 0] 118)) := (Below.refl _ _).alloc (Nat.le_refl _) _
  have k3 := Blk.new ((W.alloc o).alloc (.cells #[.string ⟨#[]⟩, .string ⟨#[]⟩, .int .i64 0, .slice none 0 0, .int .i64 0] 118)) 118 #[.string op, .string nm, .int .i64 q, .slice none 0 0, .int .i64 a]
  have b3 : Below ((W.alloc o).alloc (.cells #[.string ⟨#[]⟩, .string ⟨#[]⟩, .int .i64 0, .slice none 0 0, .int .i64 0] 118)).heap.size ((W.alloc o).alloc (.cells #[.string ⟨#[]⟩, .string ⟨#[]⟩, .int .i64 0, .slice none 0 0, .int .i64 0] 118)) (((W.alloc o).alloc (.cells #[.string ⟨#[]⟩, .string ⟨#[]⟩, .int .i64 0, .slice none 0 0, .int .i64 0] 118)).alloc (.cells #[.string op, .string nm, .int .i64 q, .slice none 0 0, .int .i64 a] 118)) := (Below.refl _ _).alloc (Nat.le_refl _) _
  have k2' := k2.below b3 k2.lt
  simp only [World.size_alloc] at k2' k3
  exact ⟨thru (thru b1 b2) b3, k2', k3, OwnL.nil _ _⟩
/-- What Expr tells. -/
def RetEx (op nm : ByteArray) (q a : Int) (n : Nat) (l : List Ex) (W : World) (e : Ending) (w' : World) : Prop :=
  ∃ v, e = .returned (exV op nm q v a) ∧ ExR (fun b => W.heap.size ≤ b ∧ b < w'.heap.size) n w' l v ∧ Below W.heap.size W w'
set_option maxRecDepth 100000 in
set_option maxHeartbeats 6400000 in
theorem expr_any (n : Nat) : ∀ (l : List Ex) (op nm : ByteArray) (q a : Int) (v : Value) (P : Nat → Prop) (W : World), ExR P n W l v → (∀ b, P b → b < W.heap.size) → Calls Tryz.prog 54 #[exV op nm q v a] W (RetEx op nm q a n l W) := by
  induction n with
  | zero => intro l op nm q a v P W h; exact h.elim
  | succ n ih =>
    intro l op nm q a v P W h hP
    obtain ⟨A, cap, rfl, hc, hl, hat⟩ := h
    have HAt := Lib.hid hat
    have HIH := Lib.hid ih
    have HLim := Lib.hid hl
    have hl2 : l.length ≤ 2199023255552 := by omega
    obtain ⟨i0, hi0, hz0, hz1, hz2⟩ := info_parts einfo
    have HI0 := Lib.hid (And.intro hi0 (And.intro hz0 (And.intro hz1 hz2)))
    clear hat ih hl hi0 hz0 hz1 hz2
    obtain ⟨m, hm⟩ : ∃ m, l.length = m := ⟨_, rfl⟩
    have HM := Lib.hid hm
    rw [hm] at hl2 hc HLim
    unfold RetEx
    rw [hm]
    clear hm
    have HX0 := Lib.hid (xi_new W op nm q a n (.cells #[.string op, .string nm, .int .i64 q, .slice A m cap, .int .i64 a] 52))
    go_enter Tryz.func54, Tryz.ntmps54
    go_wp2
    go_loopw [18] (fun i wr => ∃ (k : Nat) (v : Value), i = .int .i64 (k : Int) ∧ k ≤ m ∧ XI W op nm q a n (l.take k) v wr) (fun i _ => m - (RowKit.intOf i).toNat)
    case atStart => exact ⟨0, .slice none 0 0, rfl, Nat.zero_le _, by rw [List.take_zero]; exact HX0.out⟩
    case round =>
      obtain ⟨k, v, rfl, hk, hxi⟩ := hrel
      have HXI := Lib.hid hxi
      clear hxi HX0
      by_cases hlt : k < m
      · obtain ⟨x, hx⟩ : ∃ x, l[k]? = some x := ⟨l[k]'(by rw [HM.out]; exact hlt), List.getElem?_eq_getElem _⟩
        obtain ⟨b, off, L, rfl, hbB, hat, hi1, hi2, hr⟩ := HAt.out k x hx
        have HIn := Lib.hid (And.intro hi1 hi2)
        obtain ⟨x0, x1, x2, x3, x4⟩ := hat.below HXI.out.low (hP b hbB)
        obtain ⟨A', cap', rfl, hc', -⟩ := hr.slice
        have HX := Lib.hid hx
        have HTl : Hid ((l.take k).length = k) := Lib.hid (by rw [List.length_take, HM.out]; omega)
        obtain ⟨W1, hW1⟩ : ∃ W1, W1 = wr.alloc (.cells #[.string x.op, .string x.nm, .int .i64 x.n, .slice A' x.l.length cap', .int .i64 x.a] 52) := ⟨_, rfl⟩
        have HB1 : Hid (Below wr.heap.size wr W1) := Lib.hid (by rw [hW1]; exact (Below.refl _ _).alloc (Nat.le_refl _) _)
        have KB1 : Hid (Blk W1 wr.heap.size 52 #[.string x.op, .string x.nm, .int .i64 x.n, .slice A' x.l.length cap', .int .i64 x.a]) := Lib.hid (by rw [hW1]; exact Blk.new wr _ _)
        have XW1 := Lib.hid (HXI.out.below HB1.out)
        have B1 : Hid (Below W1.heap.size W1 W1.drew) := Lib.hid (Below.refl _ _).drew
        have HVl := Lib.hid (fun g e => (HXI.out.own.lt g e).2)
        have HGt : Hid (W.heap.size + 1 + 1 < wr.heap.size) := Lib.hid HXI.out.base
        have HC : Hid (∀ w2, Below W1.heap.size W1 w2 → Calls Tryz.prog 54 #[exV x.op x.nm x.n (.slice A' x.l.length cap') x.a] w2 (fun e w' => ∃ L2, e = .returned (exV x.op x.nm x.n L2 x.a) ∧ ExR (fun b => w2.heap.size ≤ b ∧ b < w'.heap.size) n w' x.l L2 ∧ Below w2.heap.size w2 w')) := Lib.hid fun w2 hb2 => by
          have q := thru (thru HXI.out.low HB1.out) hb2
          exact HIH.out x.l _ _ _ _ _ P w2 (hr.below q hP) (lo_up hP q.size)
        have HS2 : Hid (∀ w', Blk w' wr.heap.size 52 #[.string x.op, .string x.nm, .int .i64 x.n, .slice A' x.l.length cap', .int .i64 x.a] → (w'.cell? ⟨wr.heap.size, 0, none⟩ = some (.string x.op) ∧ w'.cell? ⟨wr.heap.size, 1, none⟩ = some (.string x.nm) ∧ w'.cell? ⟨wr.heap.size, 2, none⟩ = some (.int .i64 x.n) ∧ w'.cell? ⟨wr.heap.size, 3, none⟩ = some (.slice A' x.l.length cap') ∧ w'.cell? ⟨wr.heap.size, 4, none⟩ = some (.int .i64 x.a))) := Lib.hid fun w' h => ⟨h.cell 0, h.cell 1, h.cell 2, h.cell 3, h.cell 4⟩
        have K1 := Lib.hid (HS2.out _ (KB1.out.below B1.out KB1.out.lt))
        have HW1 := Lib.hid hW1
        clear hat hr hi1 hi2 hx hW1
        go_wp2_with fail
        rw [← HW1.out]
        refine wp_region_held_drew (S := fun w' => w'.cell? ⟨wr.heap.size, 0, none⟩ = some (.string x.op) ∧ w'.cell? ⟨wr.heap.size, 1, none⟩ = some (.string x.nm) ∧ w'.cell? ⟨wr.heap.size, 2, none⟩ = some (.int .i64 x.n) ∧ w'.cell? ⟨wr.heap.size, 3, none⟩ = some (.slice A' x.l.length cap') ∧ w'.cell? ⟨wr.heap.size, 4, none⟩ = some (.int .i64 x.a)) (by kernel_rfl) K1.out (fun k0 => ?_)
        refine wpAnyH_take (i := 0) (oi := ⟨some 22, _, _, _, _, _⟩) (v := ?_) rfl (by kernel_rfl) (by kernel_rfl) (by kernel_rfl) (fun _ _ _ h => h) (Or.inl ⟨by rfl, ?_⟩) k0 ?_
        rotate_left
        · intro w hSw
          try dsimp only at hSw
          go_simp
          try with_reducible rfl
        try simp only [Act.put, List.setIfInBounds_toArray, List.set_cons_zero, List.set_cons_succ]
        refine wpAnyH_take (i := 2) (oi := ⟨some 24, _, _, _, _, _⟩) (v := ?_) rfl (by kernel_rfl) (by kernel_rfl) (by kernel_rfl) (fun _ _ _ h => h) (Or.inl ⟨by rfl, ?_⟩) k0 ?_
        rotate_left
        · intro w hSw
          try dsimp only at hSw
          go_simp
          try with_reducible rfl
        try simp only [Act.put, List.setIfInBounds_toArray, List.set_cons_zero, List.set_cons_succ]
        refine wpAnyH_ready (rs := [1, 3]) (by kernel_rfl) (by simp) ?_
        refine (AllReadyH.cons (o := ⟨some 23, _, _, _, _, _⟩) rfl (fun K' hK => ?_) (AllReadyH.cons (o := ⟨some 25, _, _, _, _, _⟩) rfl (fun K' hK => ?_) AllReadyH.nil))
        · have tf : W1.cell? ⟨W.heap.size + 1 + 1, 3, none⟩ = some v := XW1.out.b3.cell 3
          go_simp
          refine hK.out _ _ K1.out (fun h1 => ?_)
          clear hK K'
          try simp only [Act.put, List.setIfInBounds_toArray, List.set_cons_zero, List.set_cons_succ]
          clear tf
          refine wpAnyH_ready (rs := [3]) (by kernel_rfl) (by simp) ?_
          refine (AllReadyH.cons (o := ⟨some 25, _, _, _, _, _⟩) rfl (fun K' hK => ?_) AllReadyH.nil)
          go_simp
          refine (HC.out _ B1.out).mono ?_
          rintro e w2 ⟨L2, rfl, hL2, hb⟩
          have B2 : Hid (Below W1.heap.size W1 w2) := Lib.hid (thru B1.out hb)
          have Xw2 := Lib.hid (XW1.out.below B2.out)
          have KB2 := Lib.hid (KB1.out.below B2.out KB1.out.lt)
          have K2 := Lib.hid (HS2.out _ KB2.out)
          have HL2 := Lib.hid hL2
          obtain ⟨A2, c2, rfl, -, -⟩ := hL2.slice
          clear hb hL2
          go_wp2_with fail
          refine hK.out _ _ K2.out (fun h2 => ?_)
          clear hK K'
          try simp only [Act.put, List.setIfInBounds_toArray, List.set_cons_zero, List.set_cons_succ]
          refine wpAnyH_ready (rs := [4]) (by kernel_rfl) (by simp) ?_
          refine (AllReadyH.cons (o := ⟨some 26, _, _, _, _, _⟩) rfl (fun K' hK => ?_) AllReadyH.nil)
          have B3 : Hid (Below w2.heap.size w2 (w2.alloc (.cells #[.string x.op, .string x.nm, .int .i64 x.n, .slice A2 x.l.length c2, .int .i64 x.a] 118))) := Lib.hid ((Below.refl _ _).alloc (Nat.le_refl _) _)
          have X3 := Lib.hid (Xw2.out.below B3.out)
          have KB3 := Lib.hid (KB2.out.below B3.out KB2.out.lt)
          have K3 := Lib.hid (HS2.out _ KB3.out)
          have N3 := Lib.hid (Blk.new w2 118 #[.string x.op, .string x.nm, .int .i64 x.n, .slice A2 x.l.length c2, .int .i64 x.a])
          go_simp
          refine hK.out _ _ K3.out (fun h3 => ?_)
          clear hK K'
          try simp only [Act.put, List.setIfInBounds_toArray, List.set_cons_zero, List.set_cons_succ]
          refine wpAnyH_ready (rs := [5]) (by kernel_rfl) (by simp) ?_
          refine (AllReadyH.cons (o := ⟨some 27, _, _, _, _, _⟩) rfl (fun K' hK => ?_) AllReadyH.nil)
          obtain ⟨css, hcs1, hcs2, hcs3⟩ := X3.out.own
          have hcs4 := hcs2
          rw [HTl.out] at hcs2
          rw [if_pos (by rfl)]
          have hgood : [Value.string x.op, .string x.nm, .int .i64 x.n, .slice A2 x.l.length c2, .int .i64 x.a].length = 5 ∧ (kEx n).good (fun b => W.heap.size + 1 + 1 + 1 ≤ b ∧ b < (w2.alloc (.cells #[.string x.op, .string x.nm, .int .i64 x.n, .slice A2 x.l.length c2, .int .i64 x.a] 118)).heap.size ∧ v.ownBlock ≠ some b) (w2.alloc (.cells #[.string x.op, .string x.nm, .int .i64 x.n, .slice A2 x.l.length c2, .int .i64 x.a] 118)) x [.string x.op, .string x.nm, .int .i64 x.n, .slice A2 x.l.length c2, .int .i64 x.a] :=
            ⟨rfl, _, rfl, HIn.out.1, HIn.out.2, (HL2.out.below B3.out (fun b q => q.2)).wide (fun b q => ⟨Nat.le_trans XW1.out.base q.1, Nat.lt_of_lt_of_le q.2 B3.out.size, fun e => absurd (XW1.out.own.lt b e).2 (Nat.not_lt.2 q.1)⟩)⟩
          refine wp_append_at (.tmp 23) (.tmp 26) 112 rfl (W.heap.size + 1 + 1 + 1) 118 i0 (.agg #[.string ⟨#[]⟩, .string ⟨#[]⟩, .int .i64 0, .slice none 0 0, .int .i64 0]) 5 72 Tryz.underlying112 HI0.out.1 HI0.out.2.1 HI0.out.2.2.1 HI0.out.2.2.2 rfl (by decide) v k css.flatten rfl hcs2 ⟨w2.heap.size, 0, none⟩ 1 1 [.string x.op, .string x.nm, .int .i64 x.n, .slice A2 x.l.length c2, .int .i64 x.a] rfl rfl (news_five N3.out) (one_five _ _ _ _ _ _ _) (by unfold maxLen; omega) (by have := HLim.out; omega) X3.out.base ?_
          intro v5 w5 ho hg hv
          have X5 := Lib.hid (X3.out.more HX.out hcs1 hcs3 hcs2 ho hg hv hgood)
          have KB5 : Hid (Blk w5 wr.heap.size 52 #[.string x.op, .string x.nm, .int .i64 x.n, .slice A' x.l.length cap', .int .i64 x.a]) := Lib.hid (KB3.out.grown hg (fun e => absurd (HVl.out _ e.symm) (Nat.lt_irrefl _)))
          have K5 := Lib.hid (HS2.out _ KB5.out)
          obtain ⟨A5, c5, rfl⟩ : ∃ A5 c5, v5 = .slice A5 (k + 1) c5 := by
            rcases ho.2 with ⟨_, h0⟩ | ⟨g, cap, cur, e, _⟩
            · omega
            · exact ⟨_, _, e⟩
          clear ho hg hv hcs1 hcs2 hcs3 hcs4 hgood
          refine hK.out _ _ K5.out (fun h5 => ?_)
          clear hK K'
          try simp only [Act.put, List.setIfInBounds_toArray, List.set_cons_zero, List.set_cons_succ]
          refine wpAnyH_take (i := 6) (oi := ⟨some 28, _, _, _, _, _⟩) (v := ?_) rfl (by kernel_rfl) (by kernel_rfl) (by kernel_rfl) (fun _ _ _ h => h) (Or.inl ⟨by rfl, ?_⟩) h5 ?_
          rotate_left
          · intro w hSw
            try dsimp only at hSw
            go_simp
            try with_reducible rfl
          try simp only [Act.put, List.setIfInBounds_toArray, List.set_cons_zero, List.set_cons_succ]
          refine wpAnyH_ready (rs := [7]) (by kernel_rfl) (by simp) ?_
          refine (AllReadyH.cons (o := ⟨none, _, _, _, _, _⟩) rfl (fun K' hK => ?_) AllReadyH.nil)
          have t0 := X5.out.b3.cell 3
          have t1 := X5.out.b3.frozen 3
          have t2 := X5.out.b3.lt
          simp at t0
          have K6 := Lib.hid (HS2.out _ (KB5.out.far (p := ⟨W.heap.size + 1 + 1, 3, none⟩) (Nat.ne_of_gt HGt.out) (.slice A5 (k + 1) c5)))
          go_simp
          refine hK.out _ _ K6.out (fun h6 => ?_)
          clear hK K'
          try simp only [Act.put, List.setIfInBounds_toArray, List.set_cons_zero, List.set_cons_succ]
          clear t0 t1 t2
          refine wpAnyH_done (by kernel_rfl) ?_ _
          have X6 := Lib.hid (X5.out.put)
          obtain ⟨w6, hw6⟩ : ∃ x, w5.setCell ⟨W.heap.size + 1 + 1, 3, none⟩ (.slice A5 (k + 1) c5) = x := ⟨_, rfl⟩
          rw [hw6] at X6 ⊢
          clear hw6
          go_wp2_with fail
          go_roundw
          case rel => exact ⟨k + 1, .slice A5 (k + 1) c5, by go_num, hlt, X6.out⟩
          case measure => simp [RowKit.intOf]; omega
        · go_simp
          refine (HC.out _ B1.out).mono ?_
          rintro e w2 ⟨L2, rfl, hL2, hb⟩
          have B2 : Hid (Below W1.heap.size W1 w2) := Lib.hid (thru B1.out hb)
          have Xw2 := Lib.hid (XW1.out.below B2.out)
          have KB2 := Lib.hid (KB1.out.below B2.out KB1.out.lt)
          have K2 := Lib.hid (HS2.out _ KB2.out)
          have HL2 := Lib.hid hL2
          obtain ⟨A2, c2, rfl, -, -⟩ := hL2.slice
          clear hb hL2
          go_wp2_with fail
          refine hK.out _ _ K2.out (fun h2 => ?_)
          clear hK K'
          try simp only [Act.put, List.setIfInBounds_toArray, List.set_cons_zero, List.set_cons_succ]
          refine wpAnyH_ready (rs := [1, 4]) (by kernel_rfl) (by simp) ?_
          refine (AllReadyH.cons (o := ⟨some 23, _, _, _, _, _⟩) rfl (fun K' hK => ?_) (AllReadyH.cons (o := ⟨some 26, _, _, _, _, _⟩) rfl (fun K' hK => ?_) AllReadyH.nil))
          · have tf : w2.cell? ⟨W.heap.size + 1 + 1, 3, none⟩ = some v := Xw2.out.b3.cell 3
            go_simp
            refine hK.out _ _ K2.out (fun h3 => ?_)
            clear hK K'
            try simp only [Act.put, List.setIfInBounds_toArray, List.set_cons_zero, List.set_cons_succ]
            clear tf
            refine wpAnyH_ready (rs := [4]) (by kernel_rfl) (by simp) ?_
            refine (AllReadyH.cons (o := ⟨some 26, _, _, _, _, _⟩) rfl (fun K' hK => ?_) AllReadyH.nil)
            have B3 : Hid (Below w2.heap.size w2 (w2.alloc (.cells #[.string x.op, .string x.nm, .int .i64 x.n, .slice A2 x.l.length c2, .int .i64 x.a] 118))) := Lib.hid ((Below.refl _ _).alloc (Nat.le_refl _) _)
            have X3 := Lib.hid (Xw2.out.below B3.out)
            have KB3 := Lib.hid (KB2.out.below B3.out KB2.out.lt)
            have K3 := Lib.hid (HS2.out _ KB3.out)
            have N3 := Lib.hid (Blk.new w2 118 #[.string x.op, .string x.nm, .int .i64 x.n, .slice A2 x.l.length c2, .int .i64 x.a])
            go_simp
            refine hK.out _ _ K3.out (fun h4 => ?_)
            clear hK K'
            try simp only [Act.put, List.setIfInBounds_toArray, List.set_cons_zero, List.set_cons_succ]
            refine wpAnyH_ready (rs := [5]) (by kernel_rfl) (by simp) ?_
            refine (AllReadyH.cons (o := ⟨some 27, _, _, _, _, _⟩) rfl (fun K' hK => ?_) AllReadyH.nil)
            obtain ⟨css, hcs1, hcs2, hcs3⟩ := X3.out.own
            have hcs4 := hcs2
            rw [HTl.out] at hcs2
            rw [if_pos (by rfl)]
            have hgood : [Value.string x.op, .string x.nm, .int .i64 x.n, .slice A2 x.l.length c2, .int .i64 x.a].length = 5 ∧ (kEx n).good (fun b => W.heap.size + 1 + 1 + 1 ≤ b ∧ b < (w2.alloc (.cells #[.string x.op, .string x.nm, .int .i64 x.n, .slice A2 x.l.length c2, .int .i64 x.a] 118)).heap.size ∧ v.ownBlock ≠ some b) (w2.alloc (.cells #[.string x.op, .string x.nm, .int .i64 x.n, .slice A2 x.l.length c2, .int .i64 x.a] 118)) x [.string x.op, .string x.nm, .int .i64 x.n, .slice A2 x.l.length c2, .int .i64 x.a] :=
              ⟨rfl, _, rfl, HIn.out.1, HIn.out.2, (HL2.out.below B3.out (fun b q => q.2)).wide (fun b q => ⟨Nat.le_trans XW1.out.base q.1, Nat.lt_of_lt_of_le q.2 B3.out.size, fun e => absurd (XW1.out.own.lt b e).2 (Nat.not_lt.2 q.1)⟩)⟩
            refine wp_append_at (.tmp 23) (.tmp 26) 112 rfl (W.heap.size + 1 + 1 + 1) 118 i0 (.agg #[.string ⟨#[]⟩, .string ⟨#[]⟩, .int .i64 0, .slice none 0 0, .int .i64 0]) 5 72 Tryz.underlying112 HI0.out.1 HI0.out.2.1 HI0.out.2.2.1 HI0.out.2.2.2 rfl (by decide) v k css.flatten rfl hcs2 ⟨w2.heap.size, 0, none⟩ 1 1 [.string x.op, .string x.nm, .int .i64 x.n, .slice A2 x.l.length c2, .int .i64 x.a] rfl rfl (news_five N3.out) (one_five _ _ _ _ _ _ _) (by unfold maxLen; omega) (by have := HLim.out; omega) X3.out.base ?_
            intro v5 w5 ho hg hv
            have X5 := Lib.hid (X3.out.more HX.out hcs1 hcs3 hcs2 ho hg hv hgood)
            have KB5 : Hid (Blk w5 wr.heap.size 52 #[.string x.op, .string x.nm, .int .i64 x.n, .slice A' x.l.length cap', .int .i64 x.a]) := Lib.hid (KB3.out.grown hg (fun e => absurd (HVl.out _ e.symm) (Nat.lt_irrefl _)))
            have K5 := Lib.hid (HS2.out _ KB5.out)
            obtain ⟨A5, c5, rfl⟩ : ∃ A5 c5, v5 = .slice A5 (k + 1) c5 := by
              rcases ho.2 with ⟨_, h0⟩ | ⟨g, cap, cur, e, _⟩
              · omega
              · exact ⟨_, _, e⟩
            clear ho hg hv hcs1 hcs2 hcs3 hcs4 hgood
            refine hK.out _ _ K5.out (fun h5 => ?_)
            clear hK K'
            try simp only [Act.put, List.setIfInBounds_toArray, List.set_cons_zero, List.set_cons_succ]
            refine wpAnyH_take (i := 6) (oi := ⟨some 28, _, _, _, _, _⟩) (v := ?_) rfl (by kernel_rfl) (by kernel_rfl) (by kernel_rfl) (fun _ _ _ h => h) (Or.inl ⟨by rfl, ?_⟩) h5 ?_
            rotate_left
            · intro w hSw
              try dsimp only at hSw
              go_simp
              try with_reducible rfl
            try simp only [Act.put, List.setIfInBounds_toArray, List.set_cons_zero, List.set_cons_succ]
            refine wpAnyH_ready (rs := [7]) (by kernel_rfl) (by simp) ?_
            refine (AllReadyH.cons (o := ⟨none, _, _, _, _, _⟩) rfl (fun K' hK => ?_) AllReadyH.nil)
            have t0 := X5.out.b3.cell 3
            have t1 := X5.out.b3.frozen 3
            have t2 := X5.out.b3.lt
            simp at t0
            have K6 := Lib.hid (HS2.out _ (KB5.out.far (p := ⟨W.heap.size + 1 + 1, 3, none⟩) (Nat.ne_of_gt HGt.out) (.slice A5 (k + 1) c5)))
            go_simp
            refine hK.out _ _ K6.out (fun h6 => ?_)
            clear hK K'
            try simp only [Act.put, List.setIfInBounds_toArray, List.set_cons_zero, List.set_cons_succ]
            clear t0 t1 t2
            refine wpAnyH_done (by kernel_rfl) ?_ _
            have X6 := Lib.hid (X5.out.put)
            obtain ⟨w6, hw6⟩ : ∃ x, w5.setCell ⟨W.heap.size + 1 + 1, 3, none⟩ (.slice A5 (k + 1) c5) = x := ⟨_, rfl⟩
            rw [hw6] at X6 ⊢
            clear hw6
            go_wp2_with fail
            go_roundw
            case rel => exact ⟨k + 1, .slice A5 (k + 1) c5, by go_num, hlt, X6.out⟩
            case measure => simp [RowKit.intOf]; omega
          · have B3 : Hid (Below w2.heap.size w2 (w2.alloc (.cells #[.string x.op, .string x.nm, .int .i64 x.n, .slice A2 x.l.length c2, .int .i64 x.a] 118))) := Lib.hid ((Below.refl _ _).alloc (Nat.le_refl _) _)
            have X3 := Lib.hid (Xw2.out.below B3.out)
            have KB3 := Lib.hid (KB2.out.below B3.out KB2.out.lt)
            have K3 := Lib.hid (HS2.out _ KB3.out)
            have N3 := Lib.hid (Blk.new w2 118 #[.string x.op, .string x.nm, .int .i64 x.n, .slice A2 x.l.length c2, .int .i64 x.a])
            go_simp
            refine hK.out _ _ K3.out (fun h3 => ?_)
            clear hK K'
            try simp only [Act.put, List.setIfInBounds_toArray, List.set_cons_zero, List.set_cons_succ]
            refine wpAnyH_ready (rs := [1]) (by kernel_rfl) (by simp) ?_
            refine (AllReadyH.cons (o := ⟨some 23, _, _, _, _, _⟩) rfl (fun K' hK => ?_) AllReadyH.nil)
            have tf : (w2.alloc (.cells #[.string x.op, .string x.nm, .int .i64 x.n, .slice A2 x.l.length c2, .int .i64 x.a] 118)).cell? ⟨W.heap.size + 1 + 1, 3, none⟩ = some v := X3.out.b3.cell 3
            go_simp
            refine hK.out _ _ K3.out (fun h4 => ?_)
            clear hK K'
            try simp only [Act.put, List.setIfInBounds_toArray, List.set_cons_zero, List.set_cons_succ]
            clear tf
            refine wpAnyH_ready (rs := [5]) (by kernel_rfl) (by simp) ?_
            refine (AllReadyH.cons (o := ⟨some 27, _, _, _, _, _⟩) rfl (fun K' hK => ?_) AllReadyH.nil)
            obtain ⟨css, hcs1, hcs2, hcs3⟩ := X3.out.own
            have hcs4 := hcs2
            rw [HTl.out] at hcs2
            rw [if_pos (by rfl)]
            have hgood : [Value.string x.op, .string x.nm, .int .i64 x.n, .slice A2 x.l.length c2, .int .i64 x.a].length = 5 ∧ (kEx n).good (fun b => W.heap.size + 1 + 1 + 1 ≤ b ∧ b < (w2.alloc (.cells #[.string x.op, .string x.nm, .int .i64 x.n, .slice A2 x.l.length c2, .int .i64 x.a] 118)).heap.size ∧ v.ownBlock ≠ some b) (w2.alloc (.cells #[.string x.op, .string x.nm, .int .i64 x.n, .slice A2 x.l.length c2, .int .i64 x.a] 118)) x [.string x.op, .string x.nm, .int .i64 x.n, .slice A2 x.l.length c2, .int .i64 x.a] :=
              ⟨rfl, _, rfl, HIn.out.1, HIn.out.2, (HL2.out.below B3.out (fun b q => q.2)).wide (fun b q => ⟨Nat.le_trans XW1.out.base q.1, Nat.lt_of_lt_of_le q.2 B3.out.size, fun e => absurd (XW1.out.own.lt b e).2 (Nat.not_lt.2 q.1)⟩)⟩
            refine wp_append_at (.tmp 23) (.tmp 26) 112 rfl (W.heap.size + 1 + 1 + 1) 118 i0 (.agg #[.string ⟨#[]⟩, .string ⟨#[]⟩, .int .i64 0, .slice none 0 0, .int .i64 0]) 5 72 Tryz.underlying112 HI0.out.1 HI0.out.2.1 HI0.out.2.2.1 HI0.out.2.2.2 rfl (by decide) v k css.flatten rfl hcs2 ⟨w2.heap.size, 0, none⟩ 1 1 [.string x.op, .string x.nm, .int .i64 x.n, .slice A2 x.l.length c2, .int .i64 x.a] rfl rfl (news_five N3.out) (one_five _ _ _ _ _ _ _) (by unfold maxLen; omega) (by have := HLim.out; omega) X3.out.base ?_
            intro v5 w5 ho hg hv
            have X5 := Lib.hid (X3.out.more HX.out hcs1 hcs3 hcs2 ho hg hv hgood)
            have KB5 : Hid (Blk w5 wr.heap.size 52 #[.string x.op, .string x.nm, .int .i64 x.n, .slice A' x.l.length cap', .int .i64 x.a]) := Lib.hid (KB3.out.grown hg (fun e => absurd (HVl.out _ e.symm) (Nat.lt_irrefl _)))
            have K5 := Lib.hid (HS2.out _ KB5.out)
            obtain ⟨A5, c5, rfl⟩ : ∃ A5 c5, v5 = .slice A5 (k + 1) c5 := by
              rcases ho.2 with ⟨_, h0⟩ | ⟨g, cap, cur, e, _⟩
              · omega
              · exact ⟨_, _, e⟩
            clear ho hg hv hcs1 hcs2 hcs3 hcs4 hgood
            refine hK.out _ _ K5.out (fun h5 => ?_)
            clear hK K'
            try simp only [Act.put, List.setIfInBounds_toArray, List.set_cons_zero, List.set_cons_succ]
            refine wpAnyH_take (i := 6) (oi := ⟨some 28, _, _, _, _, _⟩) (v := ?_) rfl (by kernel_rfl) (by kernel_rfl) (by kernel_rfl) (fun _ _ _ h => h) (Or.inl ⟨by rfl, ?_⟩) h5 ?_
            rotate_left
            · intro w hSw
              try dsimp only at hSw
              go_simp
              try with_reducible rfl
            try simp only [Act.put, List.setIfInBounds_toArray, List.set_cons_zero, List.set_cons_succ]
            refine wpAnyH_ready (rs := [7]) (by kernel_rfl) (by simp) ?_
            refine (AllReadyH.cons (o := ⟨none, _, _, _, _, _⟩) rfl (fun K' hK => ?_) AllReadyH.nil)
            have t0 := X5.out.b3.cell 3
            have t1 := X5.out.b3.frozen 3
            have t2 := X5.out.b3.lt
            simp at t0
            have K6 := Lib.hid (HS2.out _ (KB5.out.far (p := ⟨W.heap.size + 1 + 1, 3, none⟩) (Nat.ne_of_gt HGt.out) (.slice A5 (k + 1) c5)))
            go_simp
            refine hK.out _ _ K6.out (fun h6 => ?_)
            clear hK K'
            try simp only [Act.put, List.setIfInBounds_toArray, List.set_cons_zero, List.set_cons_succ]
            clear t0 t1 t2
            refine wpAnyH_done (by kernel_rfl) ?_ _
            have X6 := Lib.hid (X5.out.put)
            obtain ⟨w6, hw6⟩ : ∃ x, w5.setCell ⟨W.heap.size + 1 + 1, 3, none⟩ (.slice A5 (k + 1) c5) = x := ⟨_, rfl⟩
            rw [hw6] at X6 ⊢
            clear hw6
            go_wp2_with fail
            go_roundw
            case rel => exact ⟨k + 1, .slice A5 (k + 1) c5, by go_num, hlt, X6.out⟩
            case measure => simp [RowKit.intOf]; omega
      · have he : k = m := by omega
        subst he
        have t0 := HXI.out.b3.cell 0
        have t1 := HXI.out.b3.cell 1
        have t2 := HXI.out.b3.cell 2
        have t3 := HXI.out.b3.cell 3
        have t4 := HXI.out.b3.cell 4
        have hT : l.take k = l := by rw [← HM.out, List.take_length]
        rw [hT] at HXI
        clear hT
        have u0 := HXI.out.b2.frozen 0
        have u1 := HXI.out.b2.frozen 1
        have u2 := HXI.out.b2.frozen 2
        have u3 := HXI.out.b2.frozen 3
        have u4 := HXI.out.b2.frozen 4
        have ul := HXI.out.b2.lt
        have v0 := HXI.out.b2.cell 0
        have v1 := HXI.out.b2.cell 1
        have v2 := HXI.out.b2.cell 2
        have v3 := HXI.out.b2.cell 3
        have v4 := HXI.out.b2.cell 4
        obtain ⟨A9, c9, rfl⟩ : ∃ A9 c9, v = .slice A9 k c9 := by
          obtain ⟨A9, c9, e, -⟩ := HXI.out.own.row
          rw [HM.out] at e
          exact ⟨_, _, e⟩
        simp at t0 t1 t2 t3 t4 v0 v1 v2 v3 v4
        go_wp2_with fail
        have K9 := (((((HXI.out.b2.set_ 0 (.string op)).set_ 1 (.string nm)).set_ 2 (.int .i64 q)).set_ 3 (.slice A9 k c9)).set_ 4 (.int .i64 a))
        have q0 := K9.cell 0
        have q1 := K9.cell 1
        have q2 := K9.cell 2
        have q3 := K9.cell 3
        have q4 := K9.cell 4
        simp at q0 q1 q2 q3 q4
        refine bodyPost_ret (v := exV op nm q (.slice A9 k c9) a) (by simp [results, Tryz.results54, go_sem, q0, q1, q2, q3, q4]) rfl ⟨.slice A9 k c9, rfl, ?_, ?_⟩
        · have z1 := (((((HXI.out.own.set_ ⟨W.heap.size + 1, 0, none⟩ (.string op) (Nat.lt_succ_of_lt (Nat.lt_succ_self _))).set_ ⟨W.heap.size + 1, 1, none⟩ (.string nm) (Nat.lt_succ_of_lt (Nat.lt_succ_self _))).set_ ⟨W.heap.size + 1, 2, none⟩ (.int .i64 q) (Nat.lt_succ_of_lt (Nat.lt_succ_self _))).set_ ⟨W.heap.size + 1, 3, none⟩ (.slice A9 k c9) (Nat.lt_succ_of_lt (Nat.lt_succ_self _))).set_ ⟨W.heap.size + 1, 4, none⟩ (.int .i64 a) (Nat.lt_succ_of_lt (Nat.lt_succ_self _)))
          exact (own_ex z1 (by rw [HM.out]; exact HLim.out)).wide (fun b q => ⟨Nat.le_trans (Nat.le_trans (Nat.le_succ _) (Nat.le_trans (Nat.le_succ _) (Nat.le_succ _))) q.1, q.2⟩)
        · exact ((((HXI.out.low.setCell (p := ⟨W.heap.size + 1, 0, none⟩) (Nat.le_succ _) _).setCell (p := ⟨W.heap.size + 1, 1, none⟩) (Nat.le_succ _) _).setCell (p := ⟨W.heap.size + 1, 2, none⟩) (Nat.le_succ _) _).setCell (p := ⟨W.heap.size + 1, 3, none⟩) (Nat.le_succ _) _).setCell (p := ⟨W.heap.size + 1, 4, none⟩) (Nat.le_succ _) _
end
end Go.Proofs.YteaongdlbleehaaGreatDoor.Old

/- The parse layer: the document's tree of the program's (TrStmts turned). -/
namespace Go.Proofs.YteaongdlbleehaaGreatDoor.Old
open Go.Proofs.YteaongdlbleehaaGreatDoor
open Go.RowKit
attribute [local go_sem ↓] Go.wp_at_zero Go.wp_at_succ
theorem tinfo : (Tryz.prog.info? 114).map (fun i => (i.zero, i.size, i.bytes)) = some (some (.agg #[.string ⟨#[]⟩, .string ⟨#[]⟩, .slice none 0 0, .slice none 0 0, .slice none 0 0, .int .i64 0]), 6, 112) := by kernel_rfl
theorem news_six {w : World} {g : Nat} {t : TypeId} {a b c d e f : Value} (h : Blk w g t #[a, b, c, d, e, f]) : ∀ (j : Nat) (u : Value), [a, b, c, d, e, f][j]? = some u → w.cell? ((⟨g, 0, none⟩ : Addr).add j) = some u := fun j u hu => by
  rw [Addr.add_lit, Nat.zero_add]
  exact (h.cell j).trans (by simpa using hu)
theorem one_six (a b : ByteArray) (A A1 A2 : Option Addr) (n n1 n2 cap cap1 cap2 : Nat) (d : Int) : ∀ u ∈ [Value.string a, Value.string b, Value.slice A n cap, Value.slice A1 n1 cap1, Value.slice A2 n2 cap2, Value.int .i64 d], u.oneCell' = true := by
  intro u hu
  simp at hu
  rcases hu with rfl | rfl | rfl | rfl | rfl | rfl <;> rfl
/-- While a statement is made: its box, its two rows, the row of its expressions so far. -/
structure SI (W1 : World) (p H : Nat) (op nm : ByteArray) (LA LB : Value) (a : Int) (n m : Nat) (xA xB : List St) (l : List Ex) (v : Value) (w : World) : Prop where
  low : Below W1.heap.size W1 w
  p1 : W1.heap.size ≤ p
  pH : p < H
  hs : H ≤ w.heap.size
  b6 : Blk w p 114 #[.string op, .string nm, v, LA, LB, .int .i64 a]
  rA : StR (fun b => W1.heap.size ≤ b ∧ b < H ∧ b ≠ p) n w xA LA
  rB : StR (fun b => W1.heap.size ≤ b ∧ b < H ∧ b ≠ p) n w xB LB
  own : OwnL (kEx m) 118 5 H w v l
/-- Behind the append, ahead of the store. -/
structure SB (W1 : World) (p H : Nat) (op nm : ByteArray) (LA LB : Value) (a : Int) (n m : Nat) (xA xB : List St) (l : List Ex) (v v' : Value) (w : World) : Prop where
  low : Below W1.heap.size W1 w
  p1 : W1.heap.size ≤ p
  pH : p < H
  hs : H ≤ w.heap.size
  b6 : Blk w p 114 #[.string op, .string nm, v, LA, LB, .int .i64 a]
  rA : StR (fun b => W1.heap.size ≤ b ∧ b < H ∧ b ≠ p) n w xA LA
  rB : StR (fun b => W1.heap.size ≤ b ∧ b < H ∧ b ≠ p) n w xB LB
  own : OwnL (kEx m) 118 5 H w v' l
section
variable {W1 w w' : World} {p H : Nat} {op nm : ByteArray} {LA LB : Value} {a : Int} {n m : Nat} {xA xB : List St} {l : List Ex} {v : Value}
theorem SI.below (h : SI W1 p H op nm LA LB a n m xA xB l v w) (hb : Below w.heap.size w w') : SI W1 p H op nm LA LB a n m xA xB l v w' :=
  ⟨thru h.low hb, h.p1, h.pH, Nat.le_trans h.hs hb.size, h.b6.below hb h.b6.lt, h.rA.below hb (fun _ q => Nat.lt_of_lt_of_le q.2.1 h.hs), h.rB.below hb (fun _ q => Nat.lt_of_lt_of_le q.2.1 h.hs), h.own.below hb⟩
theorem SI.more {y : Ex} {k : Nat} {L : List Ex} {v' : Value} {cs : List Value} {css : List (List Value)} (h : SI W1 p H op nm LA LB a n m xA xB (L.take k) v w) (hx : L[k]? = some y) (h1 : css.length = (L.take k).length)
    (h3 : ∀ (i : Nat) (x : Ex) (cs : List Value), (L.take k)[i]? = some x → css[i]? = some cs → cs.length = 5 ∧ (kEx m).good (fun b => H ≤ b ∧ b < w.heap.size ∧ v.ownBlock ≠ some b) w x cs)
    (h2 : w.ownsRow H 118 5 v k css.flatten)
    (ho : w'.ownsRow H 118 5 v' (k + 1) (css.flatten ++ cs)) (hg : w.grownBy w' v.ownBlock) (hv : v'.ownBlock = v.ownBlock ∨ v'.ownBlock = some w.heap.size)
    (hc : cs.length = 5 ∧ (kEx m).good (fun b => H ≤ b ∧ b < w.heap.size ∧ v.ownBlock ≠ some b) w y cs) :
    SB W1 p H op nm LA LB a n m xA xB (L.take (k + 1)) v v' w' := by
  have hk : k < L.length := (List.getElem?_eq_some_iff.1 hx).1
  have hlen : (L.take k).length = k := by rw [List.length_take]; omega
  have hp1 := h.p1
  have hpH := h.pH
  have hhs := h.hs
  have hne : ∀ b, b < H → some b ≠ v.ownBlock := fun b hb e => by have := (h2.lt b e.symm).1; omega
  refine ⟨Below.grown h.low hg h.low.size (fun g e => by have := (h2.lt g e).1; omega), h.p1, h.pH, Nat.le_trans h.hs hg.size, h.b6.grown hg (hne p h.pH), h.rA.kept (fun b q => hg.block b (Nat.lt_of_lt_of_le q.2.1 h.hs) (hne b q.2.1)), h.rB.kept (fun b q => hg.block b (Nat.lt_of_lt_of_le q.2.1 h.hs) (hne b q.2.1)), ?_⟩
  rw [take_one hx]
  exact OwnL.more h1 h3 (by rw [hlen]; exact ho) hg hv hc.1 hc.2
theorem SB.put {v' : Value} (h : SB W1 p H op nm LA LB a n m xA xB l v v' w) : SI W1 p H op nm LA LB a n m xA xB l v' (w.setCell ⟨p, 2, none⟩ v') :=
  ⟨h.low.setCell (p := ⟨p, 2, none⟩) h.p1 _, h.p1, h.pH, by simpa [World.setCell] using h.hs, h.b6.set_ 2 _, h.rA.kept (fun b q => Below.heap_setCell _ _ _ _ q.2.2), h.rB.kept (fun b q => Below.heap_setCell _ _ _ _ q.2.2), h.own.set_ ⟨p, 2, none⟩ _ h.pH⟩
/-- Behind the six stores into a new box. -/
theorem si_start (hb : Below W1.heap.size W1 w) (h1 : W1.heap.size ≤ p) (h2 : p < w.heap.size) (hz : Blk w p 114 #[.string ⟨#[]⟩, .string ⟨#[]⟩, .slice none 0 0, .slice none 0 0, .slice none 0 0, .int .i64 0])
    (hA : StR (fun b => W1.heap.size ≤ b ∧ b < w.heap.size ∧ b ≠ p) n w xA LA) (hB : StR (fun b => W1.heap.size ≤ b ∧ b < w.heap.size ∧ b ≠ p) n w xB LB) (m : Nat) :
    SI W1 p w.heap.size op nm LA LB a n m xA xB [] (.slice none 0 0) ((((((w.setCell ⟨p, 0, none⟩ (.string op)).setCell ⟨p, 1, none⟩ (.string nm)).setCell ⟨p, 2, none⟩ (.slice none 0 0)).setCell ⟨p, 3, none⟩ LA).setCell ⟨p, 4, none⟩ LB).setCell ⟨p, 5, none⟩ (.int .i64 a)) := by
  have hk : ∀ b, b ≠ p → ((((((w.setCell ⟨p, 0, none⟩ (.string op)).setCell ⟨p, 1, none⟩ (.string nm)).setCell ⟨p, 2, none⟩ (.slice none 0 0)).setCell ⟨p, 3, none⟩ LA).setCell ⟨p, 4, none⟩ LB).setCell ⟨p, 5, none⟩ (.int .i64 a)).heap[b]? = w.heap[b]? := fun b hb => by
    rw [Below.heap_setCell _ _ _ _ hb, Below.heap_setCell _ _ _ _ hb, Below.heap_setCell _ _ _ _ hb, Below.heap_setCell _ _ _ _ hb, Below.heap_setCell _ _ _ _ hb, Below.heap_setCell _ _ _ _ hb]
  exact ⟨(((((hb.setCell (p := ⟨p, 0, none⟩) h1 _).setCell (p := ⟨p, 1, none⟩) h1 _).setCell (p := ⟨p, 2, none⟩) h1 _).setCell (p := ⟨p, 3, none⟩) h1 _).setCell (p := ⟨p, 4, none⟩) h1 _).setCell (p := ⟨p, 5, none⟩) h1 _, h1, h2, by simp [World.setCell],
    (((((hz.set_ 0 _).set_ 1 _).set_ 2 _).set_ 3 _).set_ 4 _).set_ 5 _, hA.kept (fun b q => hk b q.2.2), hB.kept (fun b q => hk b q.2.2), OwnL.nil _ _⟩
end
/-- What Stmts tells. -/
def RetSt (n : Nat) (l : List St) (W : World) (e : Ending) (w' : World) : Prop :=
  ∃ v, e = .returned v ∧ StR (fun b => W.heap.size ≤ b ∧ b < w'.heap.size) n w' l v ∧ Below W.heap.size W w'
def CutS (W1 : World) (n n' : Nat) (x : St) (t6 : Value) (wx : World) : Prop :=
  ∃ pz H Aa2 ca2 Ab2 cb2, t6 = .pointer (some ⟨pz, 0, none⟩) ∧ SI W1 pz H x.op x.nm (.slice Aa2 x.A.length ca2) (.slice Ab2 x.B.length cb2) x.a n n' x.A x.B [] (.slice none 0 0) wx
set_option maxRecDepth 100000 in
set_option maxHeartbeats 12800000 in
theorem stmts_any (n : Nat) : ∀ (l : List St) (v : Value) (P : Nat → Prop) (W : World), StR P n W l v → (∀ b, P b → b < W.heap.size) → Calls Tryz.prog 23 #[v] W (RetSt n l W) := by
  induction n with
  | zero => intro l v P W h; exact h.elim
  | succ n ih =>
    intro l v P W h hP
    obtain ⟨A, cap, rfl, hc, hl, hat⟩ := h
    have HAt := Lib.hid hat
    have HIH := Lib.hid ih
    have HLim := Lib.hid hl
    have hl2 : l.length ≤ 2199023255552 := by omega
    obtain ⟨i0, hi0, hz0, hz1, hz2⟩ := info_parts einfo
    have HI0 := Lib.hid (And.intro hi0 (And.intro hz0 (And.intro hz1 hz2)))
    clear hi0 hz0 hz1 hz2
    obtain ⟨i1, hi0, hz0, hz1, hz2⟩ := info_parts tinfo
    have HI1 := Lib.hid (And.intro hi0 (And.intro hz0 (And.intro hz1 hz2)))
    clear hat ih hl hi0 hz0 hz1 hz2
    obtain ⟨m, hm⟩ : ∃ m, l.length = m := ⟨_, rfl⟩
    have HM := Lib.hid hm
    rw [hm] at hl2 hc HLim
    unfold RetSt
    rw [hm]
    clear hm
    go_enter Tryz.func23, Tryz.ntmps23
    go_wp2
    go_loopw [3, 11] (fun v i wr => ∃ k : Nat, i = .int .i64 (k : Int) ∧ k ≤ m ∧ OwnL (kSt n) 114 6 W.heap.size wr v (l.take k) ∧ Below W.heap.size W wr) (fun _ i _ => m - (RowKit.intOf i).toNat)
    case atStart => exact ⟨0, rfl, Nat.zero_le _, by rw [List.take_zero]; exact OwnL.nil _ _, Below.refl _ _⟩
    case round =>
      obtain ⟨k, rfl, hk, hown, hbw⟩ := hrel
      have HOw := Lib.hid hown
      have HBw := Lib.hid hbw
      clear hown hbw
      by_cases hlt : k < m
      · obtain ⟨x, hx⟩ : ∃ x, l[k]? = some x := ⟨l[k]'(by rw [HM.out]; exact hlt), List.getElem?_eq_getElem _⟩
        obtain ⟨b, off, LE, LA, LB, rfl, hbB, hat, hi2, hE, hA, hB'⟩ := HAt.out k x hx
        obtain ⟨x0, x1, x2, x3, x4, x5⟩ := hat.below HBw.out (hP b hbB)
        obtain ⟨Ae, ce, rfl, hce, hle⟩ := hE.slice
        obtain ⟨Aa, ca, rfl, -, -⟩ := hA.slice
        obtain ⟨Ab, cb, rfl, -, -⟩ := hB'.slice
        obtain ⟨n', rfl⟩ : ∃ n', n = n' + 1 := by
          cases n with
          | zero => exact hE.elim
          | succ n' => exact ⟨n', rfl⟩
        have HX0 := Lib.hid hx
        have HTl0 : Hid ((l.take k).length = k) := Lib.hid (by rw [List.length_take, HM.out]; omega)
        have HIn0 := Lib.hid hi2
        obtain ⟨n, hn⟩ : ∃ n, n = n' + 1 := ⟨_, rfl⟩
        have HN := Lib.hid hn
        rw [← hn] at HAt HIH HOw hE hA hB' ⊢
        clear hn
        obtain ⟨W1, hW1⟩ : ∃ W1, W1 = wr.alloc (.cells #[.string x.op, .string x.nm, .slice Ae x.e.length ce, .slice Aa x.A.length ca, .slice Ab x.B.length cb, .int .i64 x.a] 116) := ⟨_, rfl⟩
        have HB1 : Hid (Below wr.heap.size wr W1) := Lib.hid (by rw [hW1]; exact (Below.refl _ _).alloc (Nat.le_refl _) _)
        have KB5 : Hid (Blk W1 wr.heap.size 116 #[.string x.op, .string x.nm, .slice Ae x.e.length ce, .slice Aa x.A.length ca, .slice Ab x.B.length cb, .int .i64 x.a]) := Lib.hid (by rw [hW1]; exact Blk.new wr _ _)
        have B1 : Hid (Below W1.heap.size W1 W1.drew) := Lib.hid (Below.refl _ _).drew
        have HQ : Hid (∀ w2, Below W1.heap.size W1 w2 → Below W.heap.size W w2) := Lib.hid fun w2 hb2 => thru (thru HBw.out HB1.out) hb2
        have HCa : Hid (∀ w2, Below W1.heap.size W1 w2 → Calls Tryz.prog 23 #[.slice Aa x.A.length ca] w2 (fun e w' => ∃ L2, e = .returned L2 ∧ StR (fun b => w2.heap.size ≤ b ∧ b < w'.heap.size) n w' x.A L2 ∧ Below w2.heap.size w2 w')) := Lib.hid fun w2 hb2 =>
          HIH.out x.A _ P w2 (hA.below (HQ.out w2 hb2) hP) (lo_up hP (HQ.out w2 hb2).size)
        have HCb : Hid (∀ w2, Below W1.heap.size W1 w2 → Calls Tryz.prog 23 #[.slice Ab x.B.length cb] w2 (fun e w' => ∃ L2, e = .returned L2 ∧ StR (fun b => w2.heap.size ≤ b ∧ b < w'.heap.size) n w' x.B L2 ∧ Below w2.heap.size w2 w')) := Lib.hid fun w2 hb2 =>
          HIH.out x.B _ P w2 (hB'.below (HQ.out w2 hb2) hP) (lo_up hP (HQ.out w2 hb2).size)
        have HS5 : Hid (∀ w', Blk w' wr.heap.size 116 #[.string x.op, .string x.nm, .slice Ae x.e.length ce, .slice Aa x.A.length ca, .slice Ab x.B.length cb, .int .i64 x.a] → (w'.cell? ⟨wr.heap.size, 0, none⟩ = some (.string x.op) ∧ w'.cell? ⟨wr.heap.size, 1, none⟩ = some (.string x.nm) ∧ w'.cell? ⟨wr.heap.size, 2, none⟩ = some (.slice Ae x.e.length ce) ∧ w'.cell? ⟨wr.heap.size, 3, none⟩ = some (.slice Aa x.A.length ca) ∧ w'.cell? ⟨wr.heap.size, 4, none⟩ = some (.slice Ab x.B.length cb) ∧ w'.cell? ⟨wr.heap.size, 5, none⟩ = some (.int .i64 x.a))) := Lib.hid fun w' h => ⟨h.cell 0, h.cell 1, h.cell 2, h.cell 3, h.cell 4, h.cell 5⟩
        have K5 := Lib.hid (HS5.out _ (KB5.out.below B1.out KB5.out.lt))
        have HW1 := Lib.hid hW1
        have HE := Lib.hid hE
        have HLe := Lib.hid hle
        clear hat hi2 hE hA hB' hx hW1 hle hce
        go_wp2_with fail
        rw [← HW1.out]
        go_cut [6] (fun t6 wx => CutS W1 n n' x t6 wx)
        case first =>
          refine wp_region_held_drew (S := fun w' => w'.cell? ⟨wr.heap.size, 0, none⟩ = some (.string x.op) ∧ w'.cell? ⟨wr.heap.size, 1, none⟩ = some (.string x.nm) ∧ w'.cell? ⟨wr.heap.size, 2, none⟩ = some (.slice Ae x.e.length ce) ∧ w'.cell? ⟨wr.heap.size, 3, none⟩ = some (.slice Aa x.A.length ca) ∧ w'.cell? ⟨wr.heap.size, 4, none⟩ = some (.slice Ab x.B.length cb) ∧ w'.cell? ⟨wr.heap.size, 5, none⟩ = some (.int .i64 x.a)) (by kernel_rfl) K5.out (fun k0 => ?_)
          refine wpAnyH_take (i := 0) (oi := ⟨some 15, _, _, _, _, _⟩) (v := ?_) rfl (by kernel_rfl) (by kernel_rfl) (by kernel_rfl) (fun _ _ _ h => h) (Or.inl ⟨by rfl, ?_⟩) k0 ?_
          rotate_left
          · intro w hSw
            try dsimp only at hSw
            go_simp
            try with_reducible rfl
          try simp only [Act.put, List.setIfInBounds_toArray, List.set_cons_zero, List.set_cons_succ]
          refine wpAnyH_take (i := 1) (oi := ⟨some 16, _, _, _, _, _⟩) (v := ?_) rfl (by kernel_rfl) (by kernel_rfl) (by kernel_rfl) (fun _ _ _ h => h) (Or.inl ⟨by rfl, ?_⟩) k0 ?_
          rotate_left
          · intro w hSw
            try dsimp only at hSw
            go_simp
            try with_reducible rfl
          try simp only [Act.put, List.setIfInBounds_toArray, List.set_cons_zero, List.set_cons_succ]
          refine wpAnyH_take (i := 2) (oi := ⟨some 17, _, _, _, _, _⟩) (v := ?_) rfl (by kernel_rfl) (by kernel_rfl) (by kernel_rfl) (fun _ _ _ h => h) (Or.inl ⟨by rfl, ?_⟩) k0 ?_
          rotate_left
          · intro w hSw
            try dsimp only at hSw
            go_simp
            try with_reducible rfl
          try simp only [Act.put, List.setIfInBounds_toArray, List.set_cons_zero, List.set_cons_succ]
          refine wpAnyH_take (i := 3) (oi := ⟨some 18, _, _, _, _, _⟩) (v := ?_) rfl (by kernel_rfl) (by kernel_rfl) (by kernel_rfl) (fun _ _ _ h => h) (Or.inl ⟨by rfl, ?_⟩) k0 ?_
          rotate_left
          · intro w hSw
            try dsimp only at hSw
            go_simp
            try with_reducible rfl
          try simp only [Act.put, List.setIfInBounds_toArray, List.set_cons_zero, List.set_cons_succ]
          refine wpAnyH_take (i := 4) (oi := ⟨some 19, _, _, _, _, _⟩) (v := ?_) rfl (by kernel_rfl) (by kernel_rfl) (by kernel_rfl) (fun _ _ _ h => h) (Or.inl ⟨by rfl, ?_⟩) k0 ?_
          rotate_left
          · intro w hSw
            try dsimp only at hSw
            go_simp
            try with_reducible rfl
          try simp only [Act.put, List.setIfInBounds_toArray, List.set_cons_zero, List.set_cons_succ]
          refine wpAnyH_take (i := 5) (oi := ⟨some 20, _, _, _, _, _⟩) (v := ?_) rfl (by kernel_rfl) (by kernel_rfl) (by kernel_rfl) (fun _ _ _ h => h) (Or.inl ⟨by rfl, ?_⟩) k0 ?_
          rotate_left
          · intro w hSw
            try dsimp only at hSw
            go_simp
            try with_reducible rfl
          try simp only [Act.put, List.setIfInBounds_toArray, List.set_cons_zero, List.set_cons_succ]
          refine wpAnyH_take (i := 6) (oi := ⟨some 21, _, _, _, _, _⟩) (v := ?_) rfl (by kernel_rfl) (by kernel_rfl) (by kernel_rfl) (fun _ _ _ h => h) (Or.inl ⟨by rfl, ?_⟩) k0 ?_
          rotate_left
          · intro w hSw
            try dsimp only at hSw
            go_simp
            try with_reducible rfl
          try simp only [Act.put, List.setIfInBounds_toArray, List.set_cons_zero, List.set_cons_succ]
          refine wpAnyH_take (i := 7) (oi := ⟨some 22, _, _, _, _, _⟩) (v := ?_) rfl (by kernel_rfl) (by kernel_rfl) (by kernel_rfl) (fun _ _ _ h => h) (Or.inl ⟨by rfl, ?_⟩) k0 ?_
          rotate_left
          · intro w hSw
            try dsimp only at hSw
            go_simp
            try with_reducible rfl
          try simp only [Act.put, List.setIfInBounds_toArray, List.set_cons_zero, List.set_cons_succ]
          refine wpAnyH_take (i := 9) (oi := ⟨some 24, _, _, _, _, _⟩) (v := ?_) rfl (by kernel_rfl) (by kernel_rfl) (by kernel_rfl) (fun _ _ _ h => h) (Or.inl ⟨by rfl, ?_⟩) k0 ?_
          rotate_left
          · intro w hSw
            try dsimp only at hSw
            go_simp
            try with_reducible rfl
          try simp only [Act.put, List.setIfInBounds_toArray, List.set_cons_zero, List.set_cons_succ]
          refine wpAnyH_take (i := 10) (oi := ⟨some 25, _, _, _, _, _⟩) (v := ?_) rfl (by kernel_rfl) (by kernel_rfl) (by kernel_rfl) (fun _ _ _ h => h) (Or.inl ⟨by rfl, ?_⟩) k0 ?_
          rotate_left
          · intro w hSw
            try dsimp only at hSw
            go_simp
            try with_reducible rfl
          try simp only [Act.put, List.setIfInBounds_toArray, List.set_cons_zero, List.set_cons_succ]
          refine wpAnyH_ready (rs := [8, 13]) (by kernel_rfl) (by simp) ?_
          refine (AllReadyH.cons (o := ⟨some 23, _, _, _, _, _⟩) rfl (fun K' hK => ?_) (AllReadyH.cons (o := ⟨some 6, _, _, _, _, _⟩) rfl (fun K' hK => ?_) AllReadyH.nil))
          · go_simp
            refine (HCa.out _ B1.out).mono ?_
            rintro e wa ⟨La, rfl, hL, hb⟩
            have Ba : Hid (Below W1.heap.size W1 wa) := Lib.hid (thru B1.out hb)
            have Ka := Lib.hid (HS5.out _ (KB5.out.below Ba.out KB5.out.lt))
            have Ra := Lib.hid hL
            have Da := Lib.hid hb
            obtain ⟨Aa2, ca2, rfl, -, -⟩ := hL.slice
            clear hb hL
            go_wp2_with fail
            refine hK.out _ _ Ka.out (fun h1 => ?_)
            clear hK K'
            try simp only [Act.put, List.setIfInBounds_toArray, List.set_cons_zero, List.set_cons_succ]
            refine wpAnyH_ready (rs := [11, 13]) (by kernel_rfl) (by simp) ?_
            refine (AllReadyH.cons (o := ⟨some 26, _, _, _, _, _⟩) rfl (fun K' hK => ?_) (AllReadyH.cons (o := ⟨some 6, _, _, _, _, _⟩) rfl (fun K' hK => ?_) AllReadyH.nil))
            · go_simp
              refine (HCb.out _ Ba.out).mono ?_
              rintro e wb ⟨Lb, rfl, hL, hb⟩
              have Bb : Hid (Below W1.heap.size W1 wb) := Lib.hid (thru Ba.out hb)
              have Kb := Lib.hid (HS5.out _ (KB5.out.below Bb.out KB5.out.lt))
              have Rb := Lib.hid hL
              have Db := Lib.hid hb
              obtain ⟨Ab2, cb2, rfl, -, -⟩ := hL.slice
              clear hb hL
              go_wp2_with fail
              refine hK.out _ _ Kb.out (fun h2 => ?_)
              clear hK K'
              try simp only [Act.put, List.setIfInBounds_toArray, List.set_cons_zero, List.set_cons_succ]
              refine wpAnyH_take (i := 12) (oi := ⟨some 27, _, _, _, _, _⟩) (v := ?_) rfl (by kernel_rfl) (by kernel_rfl) (by kernel_rfl) (fun _ _ _ h => h) (Or.inl ⟨by rfl, ?_⟩) h2 ?_
              rotate_left
              · intro w hSw
                try dsimp only at hSw
                go_simp
                try with_reducible rfl
              try simp only [Act.put, List.setIfInBounds_toArray, List.set_cons_zero, List.set_cons_succ]
              refine wpAnyH_ready (rs := [13]) (by kernel_rfl) (by simp) ?_
              refine (AllReadyH.cons (o := ⟨some 6, _, _, _, _, _⟩) rfl (fun K' hK => ?_) AllReadyH.nil)
              have Dp : Hid (Below wb.heap.size wb (wb.alloc (.cells #[.string ⟨#[]⟩, .string ⟨#[]⟩, .slice none 0 0, .slice none 0 0, .slice none 0 0, .int .i64 0] 114))) := Lib.hid ((Below.refl _ _).alloc (Nat.le_refl _) _)
              have Bp : Hid (Below W1.heap.size W1 (wb.alloc (.cells #[.string ⟨#[]⟩, .string ⟨#[]⟩, .slice none 0 0, .slice none 0 0, .slice none 0 0, .int .i64 0] 114))) := Lib.hid (thru Bb.out Dp.out)
              have Zp := Lib.hid (Blk.new wb 114 #[.string ⟨#[]⟩, .string ⟨#[]⟩, .slice none 0 0, .slice none 0 0, .slice none 0 0, .int .i64 0])
              have Kp := Lib.hid (HS5.out _ (KB5.out.below Bp.out KB5.out.lt))
              have Ep : Hid ((wb.alloc (.cells #[.string ⟨#[]⟩, .string ⟨#[]⟩, .slice none 0 0, .slice none 0 0, .slice none 0 0, .int .i64 0] 114)).heap.size = wb.heap.size + 1) := Lib.hid (by rw [World.size_alloc])
              go_simp
              refine hK.out _ _ Kp.out (fun h3 => ?_)
              clear hK K'
              try simp only [Act.put, List.setIfInBounds_toArray, List.set_cons_zero, List.set_cons_succ]
              obtain ⟨wz, hwz⟩ : ∃ wz, wz = wb.alloc (.cells #[.string ⟨#[]⟩, .string ⟨#[]⟩, .slice none 0 0, .slice none 0 0, .slice none 0 0, .int .i64 0] 114) := ⟨_, rfl⟩
              obtain ⟨pz, hpz⟩ : ∃ pz, pz = wb.heap.size := ⟨_, rfl⟩
              have Bz : Hid (Below W1.heap.size W1 wz) := Lib.hid (by rw [hwz]; exact Bp.out)
              have KBz := Lib.hid (KB5.out.below Bz.out KB5.out.lt)
              have ZZ : Hid (Blk wz pz 114 #[.string ⟨#[]⟩, .string ⟨#[]⟩, .slice none 0 0, .slice none 0 0, .slice none 0 0, .int .i64 0]) := Lib.hid (by rw [hwz, hpz]; exact Zp.out)
              have PZ : Hid (W1.heap.size ≤ pz ∧ pz < wz.heap.size) := Lib.hid ⟨by rw [hpz]; exact Bb.out.size, ZZ.out.lt⟩
              have NEz : Hid (wr.heap.size ≠ pz) := Lib.hid (Nat.ne_of_lt (Nat.lt_of_lt_of_le KB5.out.lt PZ.out.1))
              have RaZ : Hid (StR (fun b => W1.heap.size ≤ b ∧ b < wz.heap.size ∧ b ≠ pz) n wz x.A (.slice Aa2 x.A.length ca2)) := Lib.hid (by rw [hwz, hpz]; exact ((Ra.out.below Db.out (fun b q => q.2)).below Dp.out (fun b q => Nat.lt_of_lt_of_le q.2 Db.out.size)).wide (fun b q => ⟨Nat.le_trans B1.out.size q.1, Nat.lt_of_lt_of_le (Nat.lt_of_lt_of_le q.2 Db.out.size) Dp.out.size, Nat.ne_of_lt (Nat.lt_of_lt_of_le q.2 Db.out.size)⟩))
              have RbZ : Hid (StR (fun b => W1.heap.size ≤ b ∧ b < wz.heap.size ∧ b ≠ pz) n wz x.B (.slice Ab2 x.B.length cb2)) := Lib.hid (by rw [hwz, hpz]; exact (Rb.out.below Dp.out (fun b q => q.2)).wide (fun b q => ⟨Nat.le_trans Ba.out.size q.1, Nat.lt_of_lt_of_le q.2 Dp.out.size, Nat.ne_of_lt q.2⟩))
              rw [← hwz, ← hpz]
              clear hwz hpz
              refine wpAnyH_ready (rs := [14]) (by kernel_rfl) (by simp) ?_
              refine (AllReadyH.cons (o := ⟨none, _, _, _, _, _⟩) rfl (fun K' hK => ?_) AllReadyH.nil)
              have t0 := ZZ.out.cell 0
              have t1 := ZZ.out.cell 1
              have t2 := ZZ.out.cell 2
              have t3 := ZZ.out.cell 3
              have t4 := ZZ.out.cell 4
              have t5 := ZZ.out.cell 5
              have f0 := ZZ.out.frozen 0
              have f1 := ZZ.out.frozen 1
              have f2 := ZZ.out.frozen 2
              have f3 := ZZ.out.frozen 3
              have f4 := ZZ.out.frozen 4
              have f5 := ZZ.out.frozen 5
              have fl := ZZ.out.lt
              simp at t0 t1 t2 t3 t4 t5
              have KZ6 := Lib.hid (HS5.out _ ((((((KBz.out.far (p := ⟨pz, 0, none⟩) NEz.out (.string x.op)).far (p := ⟨pz, 1, none⟩) NEz.out (.string x.nm)).far (p := ⟨pz, 2, none⟩) NEz.out (.slice none 0 0)).far (p := ⟨pz, 3, none⟩) NEz.out (.slice Aa2 x.A.length ca2)).far (p := ⟨pz, 4, none⟩) NEz.out (.slice Ab2 x.B.length cb2)).far (p := ⟨pz, 5, none⟩) NEz.out (.int .i64 x.a)))
              go_simp
              refine hK.out _ _ KZ6.out (fun h9 => ?_)
              clear hK K'
              try simp only [Act.put, List.setIfInBounds_toArray, List.set_cons_zero, List.set_cons_succ]
              clear t0 t1 t2 t3 t4 t5 f0 f1 f2 f3 f4 f5 fl
              refine wpAnyH_done (by kernel_rfl) ?_ _
              have SI0 := Lib.hid (si_start (op := x.op) (nm := x.nm) (a := x.a) Bz.out PZ.out.1 PZ.out.2 ZZ.out RaZ.out RbZ.out n')
              go_wp2_with fail
              go_meet
              exact ⟨pz, wz.heap.size, Aa2, ca2, Ab2, cb2, rfl, SI0.out⟩
            · have Dp : Hid (Below wa.heap.size wa (wa.alloc (.cells #[.string ⟨#[]⟩, .string ⟨#[]⟩, .slice none 0 0, .slice none 0 0, .slice none 0 0, .int .i64 0] 114))) := Lib.hid ((Below.refl _ _).alloc (Nat.le_refl _) _)
              have Bp : Hid (Below W1.heap.size W1 (wa.alloc (.cells #[.string ⟨#[]⟩, .string ⟨#[]⟩, .slice none 0 0, .slice none 0 0, .slice none 0 0, .int .i64 0] 114))) := Lib.hid (thru Ba.out Dp.out)
              have Zp := Lib.hid (Blk.new wa 114 #[.string ⟨#[]⟩, .string ⟨#[]⟩, .slice none 0 0, .slice none 0 0, .slice none 0 0, .int .i64 0])
              have Kp := Lib.hid (HS5.out _ (KB5.out.below Bp.out KB5.out.lt))
              have Ep : Hid ((wa.alloc (.cells #[.string ⟨#[]⟩, .string ⟨#[]⟩, .slice none 0 0, .slice none 0 0, .slice none 0 0, .int .i64 0] 114)).heap.size = wa.heap.size + 1) := Lib.hid (by rw [World.size_alloc])
              go_simp
              refine hK.out _ _ Kp.out (fun h2 => ?_)
              clear hK K'
              try simp only [Act.put, List.setIfInBounds_toArray, List.set_cons_zero, List.set_cons_succ]
              refine wpAnyH_ready (rs := [11]) (by kernel_rfl) (by simp) ?_
              refine (AllReadyH.cons (o := ⟨some 26, _, _, _, _, _⟩) rfl (fun K' hK => ?_) AllReadyH.nil)
              go_simp
              refine (HCb.out _ Bp.out).mono ?_
              rintro e wb ⟨Lb, rfl, hL, hb⟩
              have Bb : Hid (Below W1.heap.size W1 wb) := Lib.hid (thru Bp.out hb)
              have Kb := Lib.hid (HS5.out _ (KB5.out.below Bb.out KB5.out.lt))
              have Rb := Lib.hid hL
              have Db := Lib.hid hb
              obtain ⟨Ab2, cb2, rfl, -, -⟩ := hL.slice
              clear hb hL
              go_wp2_with fail
              refine hK.out _ _ Kb.out (fun h3 => ?_)
              clear hK K'
              try simp only [Act.put, List.setIfInBounds_toArray, List.set_cons_zero, List.set_cons_succ]
              refine wpAnyH_take (i := 12) (oi := ⟨some 27, _, _, _, _, _⟩) (v := ?_) rfl (by kernel_rfl) (by kernel_rfl) (by kernel_rfl) (fun _ _ _ h => h) (Or.inl ⟨by rfl, ?_⟩) h3 ?_
              rotate_left
              · intro w hSw
                try dsimp only at hSw
                go_simp
                try with_reducible rfl
              try simp only [Act.put, List.setIfInBounds_toArray, List.set_cons_zero, List.set_cons_succ]
              obtain ⟨wz, hwz⟩ : ∃ wz, wz = wb := ⟨_, rfl⟩
              obtain ⟨pz, hpz⟩ : ∃ pz, pz = wa.heap.size := ⟨_, rfl⟩
              have Bz : Hid (Below W1.heap.size W1 wz) := Lib.hid (by rw [hwz]; exact Bb.out)
              have KBz := Lib.hid (KB5.out.below Bz.out KB5.out.lt)
              have ZZ : Hid (Blk wz pz 114 #[.string ⟨#[]⟩, .string ⟨#[]⟩, .slice none 0 0, .slice none 0 0, .slice none 0 0, .int .i64 0]) := Lib.hid (by rw [hwz, hpz]; exact Zp.out.below Db.out Zp.out.lt)
              have PZ : Hid (W1.heap.size ≤ pz ∧ pz < wz.heap.size) := Lib.hid ⟨by rw [hpz]; exact Ba.out.size, ZZ.out.lt⟩
              have NEz : Hid (wr.heap.size ≠ pz) := Lib.hid (Nat.ne_of_lt (Nat.lt_of_lt_of_le KB5.out.lt PZ.out.1))
              have RaZ : Hid (StR (fun b => W1.heap.size ≤ b ∧ b < wz.heap.size ∧ b ≠ pz) n wz x.A (.slice Aa2 x.A.length ca2)) := Lib.hid (by rw [hwz, hpz]; exact ((Ra.out.below Dp.out (fun b q => q.2)).below Db.out (fun b q => Nat.lt_of_lt_of_le q.2 Dp.out.size)).wide (fun b q => ⟨Nat.le_trans B1.out.size q.1, Nat.lt_of_lt_of_le (Nat.lt_of_lt_of_le q.2 Dp.out.size) Db.out.size, Nat.ne_of_lt q.2⟩))
              have RbZ : Hid (StR (fun b => W1.heap.size ≤ b ∧ b < wz.heap.size ∧ b ≠ pz) n wz x.B (.slice Ab2 x.B.length cb2)) := Lib.hid (by rw [hwz, hpz]; exact Rb.out.wide (fun b q => ⟨Nat.le_trans Bp.out.size q.1, q.2, fun e => absurd q.1 (by rw [e, Ep.out]; exact Nat.not_succ_le_self _)⟩))
              rw [← hwz, ← hpz]
              clear hwz hpz
              refine wpAnyH_ready (rs := [14]) (by kernel_rfl) (by simp) ?_
              refine (AllReadyH.cons (o := ⟨none, _, _, _, _, _⟩) rfl (fun K' hK => ?_) AllReadyH.nil)
              have t0 := ZZ.out.cell 0
              have t1 := ZZ.out.cell 1
              have t2 := ZZ.out.cell 2
              have t3 := ZZ.out.cell 3
              have t4 := ZZ.out.cell 4
              have t5 := ZZ.out.cell 5
              have f0 := ZZ.out.frozen 0
              have f1 := ZZ.out.frozen 1
              have f2 := ZZ.out.frozen 2
              have f3 := ZZ.out.frozen 3
              have f4 := ZZ.out.frozen 4
              have f5 := ZZ.out.frozen 5
              have fl := ZZ.out.lt
              simp at t0 t1 t2 t3 t4 t5
              have KZ6 := Lib.hid (HS5.out _ ((((((KBz.out.far (p := ⟨pz, 0, none⟩) NEz.out (.string x.op)).far (p := ⟨pz, 1, none⟩) NEz.out (.string x.nm)).far (p := ⟨pz, 2, none⟩) NEz.out (.slice none 0 0)).far (p := ⟨pz, 3, none⟩) NEz.out (.slice Aa2 x.A.length ca2)).far (p := ⟨pz, 4, none⟩) NEz.out (.slice Ab2 x.B.length cb2)).far (p := ⟨pz, 5, none⟩) NEz.out (.int .i64 x.a)))
              go_simp
              refine hK.out _ _ KZ6.out (fun h9 => ?_)
              clear hK K'
              try simp only [Act.put, List.setIfInBounds_toArray, List.set_cons_zero, List.set_cons_succ]
              clear t0 t1 t2 t3 t4 t5 f0 f1 f2 f3 f4 f5 fl
              refine wpAnyH_done (by kernel_rfl) ?_ _
              have SI0 := Lib.hid (si_start (op := x.op) (nm := x.nm) (a := x.a) Bz.out PZ.out.1 PZ.out.2 ZZ.out RaZ.out RbZ.out n')
              go_wp2_with fail
              go_meet
              exact ⟨pz, wz.heap.size, Aa2, ca2, Ab2, cb2, rfl, SI0.out⟩
          · have Dp : Hid (Below W1.drew.heap.size W1.drew (W1.drew.alloc (.cells #[.string ⟨#[]⟩, .string ⟨#[]⟩, .slice none 0 0, .slice none 0 0, .slice none 0 0, .int .i64 0] 114))) := Lib.hid ((Below.refl _ _).alloc (Nat.le_refl _) _)
            have Bp : Hid (Below W1.heap.size W1 (W1.drew.alloc (.cells #[.string ⟨#[]⟩, .string ⟨#[]⟩, .slice none 0 0, .slice none 0 0, .slice none 0 0, .int .i64 0] 114))) := Lib.hid (thru B1.out Dp.out)
            have Zp := Lib.hid (Blk.new W1.drew 114 #[.string ⟨#[]⟩, .string ⟨#[]⟩, .slice none 0 0, .slice none 0 0, .slice none 0 0, .int .i64 0])
            have Kp := Lib.hid (HS5.out _ (KB5.out.below Bp.out KB5.out.lt))
            have Ep : Hid ((W1.drew.alloc (.cells #[.string ⟨#[]⟩, .string ⟨#[]⟩, .slice none 0 0, .slice none 0 0, .slice none 0 0, .int .i64 0] 114)).heap.size = W1.drew.heap.size + 1) := Lib.hid (by rw [World.size_alloc])
            go_simp
            refine hK.out _ _ Kp.out (fun h1 => ?_)
            clear hK K'
            try simp only [Act.put, List.setIfInBounds_toArray, List.set_cons_zero, List.set_cons_succ]
            refine wpAnyH_ready (rs := [8]) (by kernel_rfl) (by simp) ?_
            refine (AllReadyH.cons (o := ⟨some 23, _, _, _, _, _⟩) rfl (fun K' hK => ?_) AllReadyH.nil)
            go_simp
            refine (HCa.out _ Bp.out).mono ?_
            rintro e wa ⟨La, rfl, hL, hb⟩
            have Ba : Hid (Below W1.heap.size W1 wa) := Lib.hid (thru Bp.out hb)
            have Ka := Lib.hid (HS5.out _ (KB5.out.below Ba.out KB5.out.lt))
            have Ra := Lib.hid hL
            have Da := Lib.hid hb
            obtain ⟨Aa2, ca2, rfl, -, -⟩ := hL.slice
            clear hb hL
            go_wp2_with fail
            refine hK.out _ _ Ka.out (fun h2 => ?_)
            clear hK K'
            try simp only [Act.put, List.setIfInBounds_toArray, List.set_cons_zero, List.set_cons_succ]
            refine wpAnyH_ready (rs := [11]) (by kernel_rfl) (by simp) ?_
            refine (AllReadyH.cons (o := ⟨some 26, _, _, _, _, _⟩) rfl (fun K' hK => ?_) AllReadyH.nil)
            go_simp
            refine (HCb.out _ Ba.out).mono ?_
            rintro e wb ⟨Lb, rfl, hL, hb⟩
            have Bb : Hid (Below W1.heap.size W1 wb) := Lib.hid (thru Ba.out hb)
            have Kb := Lib.hid (HS5.out _ (KB5.out.below Bb.out KB5.out.lt))
            have Rb := Lib.hid hL
            have Db := Lib.hid hb
            obtain ⟨Ab2, cb2, rfl, -, -⟩ := hL.slice
            clear hb hL
            go_wp2_with fail
            refine hK.out _ _ Kb.out (fun h3 => ?_)
            clear hK K'
            try simp only [Act.put, List.setIfInBounds_toArray, List.set_cons_zero, List.set_cons_succ]
            refine wpAnyH_take (i := 12) (oi := ⟨some 27, _, _, _, _, _⟩) (v := ?_) rfl (by kernel_rfl) (by kernel_rfl) (by kernel_rfl) (fun _ _ _ h => h) (Or.inl ⟨by rfl, ?_⟩) h3 ?_
            rotate_left
            · intro w hSw
              try dsimp only at hSw
              go_simp
              try with_reducible rfl
            try simp only [Act.put, List.setIfInBounds_toArray, List.set_cons_zero, List.set_cons_succ]
            obtain ⟨wz, hwz⟩ : ∃ wz, wz = wb := ⟨_, rfl⟩
            obtain ⟨pz, hpz⟩ : ∃ pz, pz = W1.heap.size := ⟨_, rfl⟩
            have Bz : Hid (Below W1.heap.size W1 wz) := Lib.hid (by rw [hwz]; exact Bb.out)
            have KBz := Lib.hid (KB5.out.below Bz.out KB5.out.lt)
            have ZZ : Hid (Blk wz pz 114 #[.string ⟨#[]⟩, .string ⟨#[]⟩, .slice none 0 0, .slice none 0 0, .slice none 0 0, .int .i64 0]) := Lib.hid (by rw [hwz, hpz]; exact (Zp.out.below Da.out Zp.out.lt).below Db.out (Nat.lt_of_lt_of_le Zp.out.lt Da.out.size))
            have PZ : Hid (W1.heap.size ≤ pz ∧ pz < wz.heap.size) := Lib.hid ⟨by rw [hpz]; exact B1.out.size, ZZ.out.lt⟩
            have NEz : Hid (wr.heap.size ≠ pz) := Lib.hid (Nat.ne_of_lt (Nat.lt_of_lt_of_le KB5.out.lt PZ.out.1))
            have RaZ : Hid (StR (fun b => W1.heap.size ≤ b ∧ b < wz.heap.size ∧ b ≠ pz) n wz x.A (.slice Aa2 x.A.length ca2)) := Lib.hid (by rw [hwz, hpz]; exact (Ra.out.below Db.out (fun b q => q.2)).wide (fun b q => ⟨Nat.le_trans Bp.out.size q.1, Nat.lt_of_lt_of_le q.2 Db.out.size, fun e => absurd q.1 (by rw [e, Ep.out]; exact Nat.not_succ_le_self _)⟩))
            have RbZ : Hid (StR (fun b => W1.heap.size ≤ b ∧ b < wz.heap.size ∧ b ≠ pz) n wz x.B (.slice Ab2 x.B.length cb2)) := Lib.hid (by rw [hwz, hpz]; exact Rb.out.wide (fun b q => ⟨Nat.le_trans Ba.out.size q.1, q.2, fun e => absurd (Nat.le_trans Da.out.size q.1) (by rw [e, Ep.out]; exact Nat.not_succ_le_self _)⟩))
            rw [← hwz, ← hpz]
            clear hwz hpz
            refine wpAnyH_ready (rs := [14]) (by kernel_rfl) (by simp) ?_
            refine (AllReadyH.cons (o := ⟨none, _, _, _, _, _⟩) rfl (fun K' hK => ?_) AllReadyH.nil)
            have t0 := ZZ.out.cell 0
            have t1 := ZZ.out.cell 1
            have t2 := ZZ.out.cell 2
            have t3 := ZZ.out.cell 3
            have t4 := ZZ.out.cell 4
            have t5 := ZZ.out.cell 5
            have f0 := ZZ.out.frozen 0
            have f1 := ZZ.out.frozen 1
            have f2 := ZZ.out.frozen 2
            have f3 := ZZ.out.frozen 3
            have f4 := ZZ.out.frozen 4
            have f5 := ZZ.out.frozen 5
            have fl := ZZ.out.lt
            simp at t0 t1 t2 t3 t4 t5
            have KZ6 := Lib.hid (HS5.out _ ((((((KBz.out.far (p := ⟨pz, 0, none⟩) NEz.out (.string x.op)).far (p := ⟨pz, 1, none⟩) NEz.out (.string x.nm)).far (p := ⟨pz, 2, none⟩) NEz.out (.slice none 0 0)).far (p := ⟨pz, 3, none⟩) NEz.out (.slice Aa2 x.A.length ca2)).far (p := ⟨pz, 4, none⟩) NEz.out (.slice Ab2 x.B.length cb2)).far (p := ⟨pz, 5, none⟩) NEz.out (.int .i64 x.a)))
            go_simp
            refine hK.out _ _ KZ6.out (fun h9 => ?_)
            clear hK K'
            try simp only [Act.put, List.setIfInBounds_toArray, List.set_cons_zero, List.set_cons_succ]
            clear t0 t1 t2 t3 t4 t5 f0 f1 f2 f3 f4 f5 fl
            refine wpAnyH_done (by kernel_rfl) ?_ _
            have SI0 := Lib.hid (si_start (op := x.op) (nm := x.nm) (a := x.a) Bz.out PZ.out.1 PZ.out.2 ZZ.out RaZ.out RbZ.out n')
            go_wp2_with fail
            go_meet
            exact ⟨pz, wz.heap.size, Aa2, ca2, Ab2, cb2, rfl, SI0.out⟩
        case rest =>
          obtain ⟨pz, H, Aa2, ca2, Ab2, cb2, rfl, hsi⟩ := hcut
          have HSI := Lib.hid hsi
          have z2 := (KB5.out.below hsi.low KB5.out.lt).cell 2
          simp at z2
          have hxe : x.e.length ≤ 2199023255552 := by have := HLe.out; omega
          clear hsi
          obtain ⟨wa, rfl⟩ : ∃ q, q = wr := ⟨_, rfl⟩
          go_wp2_with fail
          go_loopw [31] (fun i wq => ∃ (j : Nat) (ve : Value), i = .int .i64 (j : Int) ∧ j ≤ x.e.length ∧ SI W1 pz H x.op x.nm (.slice Aa2 x.A.length ca2) (.slice Ab2 x.B.length cb2) x.a n n' x.A x.B (x.e.take j) ve wq) (fun i _ => x.e.length - (RowKit.intOf i).toNat)
          case atStart => exact ⟨0, .slice none 0 0, rfl, Nat.zero_le _, by rw [List.take_zero]; exact HSI.out⟩
          case round =>
            obtain ⟨j, ve, rfl, hj, hsq⟩ := hrel
            have HSQ := Lib.hid hsq
            clear hsq HSI
            obtain ⟨wq, rfl⟩ : ∃ q, q = wr := ⟨_, rfl⟩
            by_cases hjt : j < x.e.length
            · obtain ⟨y, hy⟩ : ∃ y, x.e[j]? = some y := ⟨x.e[j]'hjt, List.getElem?_eq_getElem _⟩
              have hE := HE.out
              rw [HN.out] at hE
              obtain ⟨A0, c0, e0, -, -, hate⟩ := hE
              obtain ⟨b7, off7, L7, rfl, hb7, hat7, hi7, hj7, hr7⟩ := hate j y hy
              injection e0 with e0 e1 e2
              subst e0
              clear e1 e2 hate
              have HIn := Lib.hid (And.intro hi7 hj7)
              have HB7 : Hid (Below W.heap.size W wq) := Lib.hid (HQ.out _ HSQ.out.low)
              obtain ⟨y0, y1, y2, y3, y4⟩ := hat7.below HB7.out (hP b7 hb7)
              obtain ⟨A', cap', rfl, hc', -⟩ := hr7.slice
              have HX := Lib.hid hy
              have HTl : Hid ((x.e.take j).length = j) := Lib.hid (by rw [List.length_take]; omega)
              obtain ⟨W3, hW3⟩ : ∃ W3, W3 = wq.alloc (.cells #[.string y.op, .string y.nm, .int .i64 y.n, .slice A' y.l.length cap', .int .i64 y.a] 52) := ⟨_, rfl⟩
              have HB3 : Hid (Below wq.heap.size wq W3) := Lib.hid (by rw [hW3]; exact (Below.refl _ _).alloc (Nat.le_refl _) _)
              have KB1 : Hid (Blk W3 wq.heap.size 52 #[.string y.op, .string y.nm, .int .i64 y.n, .slice A' y.l.length cap', .int .i64 y.a]) := Lib.hid (by rw [hW3]; exact Blk.new wq _ _)
              have XW3 := Lib.hid (HSQ.out.below HB3.out)
              have B1 : Hid (Below W3.heap.size W3 W3.drew) := Lib.hid (Below.refl _ _).drew
              have HVl := Lib.hid (fun g e => (HSQ.out.own.lt g e).2)
              have HGt : Hid (pz < wq.heap.size) := Lib.hid HSQ.out.b6.lt
              have HCx : Hid (∀ w2, Below W3.heap.size W3 w2 → Calls Tryz.prog 54 #[exV y.op y.nm y.n (.slice A' y.l.length cap') y.a] w2 (fun e w' => ∃ L2, e = .returned (exV y.op y.nm y.n L2 y.a) ∧ ExR (fun b => w2.heap.size ≤ b ∧ b < w'.heap.size) n' w' y.l L2 ∧ Below w2.heap.size w2 w')) := Lib.hid fun w2 hb2 => by
                have q := thru (thru HB7.out HB3.out) hb2
                exact expr_any n' y.l _ _ _ _ _ P w2 (hr7.below q hP) (lo_up hP q.size)
              have HS2 : Hid (∀ w', Blk w' wq.heap.size 52 #[.string y.op, .string y.nm, .int .i64 y.n, .slice A' y.l.length cap', .int .i64 y.a] → (w'.cell? ⟨wq.heap.size, 0, none⟩ = some (.string y.op) ∧ w'.cell? ⟨wq.heap.size, 1, none⟩ = some (.string y.nm) ∧ w'.cell? ⟨wq.heap.size, 2, none⟩ = some (.int .i64 y.n) ∧ w'.cell? ⟨wq.heap.size, 3, none⟩ = some (.slice A' y.l.length cap') ∧ w'.cell? ⟨wq.heap.size, 4, none⟩ = some (.int .i64 y.a))) := Lib.hid fun w' h => ⟨h.cell 0, h.cell 1, h.cell 2, h.cell 3, h.cell 4⟩
              have K1 := Lib.hid (HS2.out _ (KB1.out.below B1.out KB1.out.lt))
              have HW3 := Lib.hid hW3
              clear hat7 hr7 hi7 hj7 hy hW3 z2
              go_wp2_with fail
              rw [← HW3.out]
              refine wp_region_held_drew (S := fun w' => w'.cell? ⟨wq.heap.size, 0, none⟩ = some (.string y.op) ∧ w'.cell? ⟨wq.heap.size, 1, none⟩ = some (.string y.nm) ∧ w'.cell? ⟨wq.heap.size, 2, none⟩ = some (.int .i64 y.n) ∧ w'.cell? ⟨wq.heap.size, 3, none⟩ = some ((.slice A' y.l.length cap')) ∧ w'.cell? ⟨wq.heap.size, 4, none⟩ = some (.int .i64 y.a)) (by kernel_rfl) K1.out (fun k0 => ?_)
              refine wpAnyH_take (i := 0) (oi := ⟨some 35, _, _, _, _, _⟩) (v := ?_) rfl (by kernel_rfl) (by kernel_rfl) (by kernel_rfl) (fun _ _ _ h => h) (Or.inl ⟨by rfl, ?_⟩) k0 ?_
              rotate_left
              · intro w hSw
                try dsimp only at hSw
                go_simp
                try with_reducible rfl
              try simp only [Act.put, List.setIfInBounds_toArray, List.set_cons_zero, List.set_cons_succ]
              refine wpAnyH_take (i := 2) (oi := ⟨some 37, _, _, _, _, _⟩) (v := ?_) rfl (by kernel_rfl) (by kernel_rfl) (by kernel_rfl) (fun _ _ _ h => h) (Or.inl ⟨by rfl, ?_⟩) k0 ?_
              rotate_left
              · intro w hSw
                try dsimp only at hSw
                go_simp
                try with_reducible rfl
              try simp only [Act.put, List.setIfInBounds_toArray, List.set_cons_zero, List.set_cons_succ]
              refine wpAnyH_ready (rs := [1, 3]) (by kernel_rfl) (by simp) ?_
              refine (AllReadyH.cons (o := ⟨some 36, _, _, _, _, _⟩) rfl (fun K' hK => ?_) (AllReadyH.cons (o := ⟨some 38, _, _, _, _, _⟩) rfl (fun K' hK => ?_) AllReadyH.nil))
              · have tf : W3.cell? ⟨pz, 2, none⟩ = some ve := XW3.out.b6.cell 2
                go_simp
                refine hK.out _ _ K1.out (fun h1 => ?_)
                clear hK K'
                try simp only [Act.put, List.setIfInBounds_toArray, List.set_cons_zero, List.set_cons_succ]
                clear tf
                refine wpAnyH_ready (rs := [3]) (by kernel_rfl) (by simp) ?_
                refine (AllReadyH.cons (o := ⟨some 38, _, _, _, _, _⟩) rfl (fun K' hK => ?_) AllReadyH.nil)
                go_simp
                refine (HCx.out _ B1.out).mono ?_
                rintro e w2 ⟨L2, rfl, hL2, hb⟩
                have B2 : Hid (Below W3.heap.size W3 w2) := Lib.hid (thru B1.out hb)
                have Xw2 := Lib.hid (XW3.out.below B2.out)
                have KB2 := Lib.hid (KB1.out.below B2.out KB1.out.lt)
                have K2 := Lib.hid (HS2.out _ KB2.out)
                have HL2 := Lib.hid hL2
                obtain ⟨A2, c2, rfl, -, -⟩ := hL2.slice
                clear hb hL2
                go_wp2_with fail
                refine hK.out _ _ K2.out (fun h2 => ?_)
                clear hK K'
                try simp only [Act.put, List.setIfInBounds_toArray, List.set_cons_zero, List.set_cons_succ]
                refine wpAnyH_ready (rs := [4]) (by kernel_rfl) (by simp) ?_
                refine (AllReadyH.cons (o := ⟨some 39, _, _, _, _, _⟩) rfl (fun K' hK => ?_) AllReadyH.nil)
                have B3 : Hid (Below w2.heap.size w2 (w2.alloc (.cells #[.string y.op, .string y.nm, .int .i64 y.n, .slice A2 y.l.length c2, .int .i64 y.a] 118))) := Lib.hid ((Below.refl _ _).alloc (Nat.le_refl _) _)
                have X3 := Lib.hid (Xw2.out.below B3.out)
                have KB3 := Lib.hid (KB2.out.below B3.out KB2.out.lt)
                have K3 := Lib.hid (HS2.out _ KB3.out)
                have N3 := Lib.hid (Blk.new w2 118 #[.string y.op, .string y.nm, .int .i64 y.n, .slice A2 y.l.length c2, .int .i64 y.a])
                go_simp
                refine hK.out _ _ K3.out (fun h3 => ?_)
                clear hK K'
                try simp only [Act.put, List.setIfInBounds_toArray, List.set_cons_zero, List.set_cons_succ]
                refine wpAnyH_ready (rs := [5]) (by kernel_rfl) (by simp) ?_
                refine (AllReadyH.cons (o := ⟨some 40, _, _, _, _, _⟩) rfl (fun K' hK => ?_) AllReadyH.nil)
                obtain ⟨css, hcs1, hcs2, hcs3⟩ := X3.out.own
                rw [HTl.out] at hcs2
                rw [if_pos (by rfl)]
                have hgood : [Value.string y.op, .string y.nm, .int .i64 y.n, .slice A2 y.l.length c2, .int .i64 y.a].length = 5 ∧ (kEx n').good (fun b => H ≤ b ∧ b < (w2.alloc (.cells #[.string y.op, .string y.nm, .int .i64 y.n, .slice A2 y.l.length c2, .int .i64 y.a] 118)).heap.size ∧ ve.ownBlock ≠ some b) (w2.alloc (.cells #[.string y.op, .string y.nm, .int .i64 y.n, .slice A2 y.l.length c2, .int .i64 y.a] 118)) y [.string y.op, .string y.nm, .int .i64 y.n, .slice A2 y.l.length c2, .int .i64 y.a] :=
                  ⟨rfl, _, rfl, HIn.out.1, HIn.out.2, (HL2.out.below B3.out (fun b q => q.2)).wide (fun b q => ⟨Nat.le_trans XW3.out.hs q.1, Nat.lt_of_lt_of_le q.2 B3.out.size, fun e => absurd (XW3.out.own.lt b e).2 (Nat.not_lt.2 q.1)⟩)⟩
                refine wp_append_at (.tmp 36) (.tmp 39) 112 rfl H 118 i0 (.agg #[.string ⟨#[]⟩, .string ⟨#[]⟩, .int .i64 0, .slice none 0 0, .int .i64 0]) 5 72 Tryz.underlying112 HI0.out.1 HI0.out.2.1 HI0.out.2.2.1 HI0.out.2.2.2 rfl (by decide) ve j css.flatten rfl hcs2 ⟨w2.heap.size, 0, none⟩ 1 1 [.string y.op, .string y.nm, .int .i64 y.n, .slice A2 y.l.length c2, .int .i64 y.a] rfl rfl (news_five N3.out) (one_five _ _ _ _ _ _ _) (by unfold maxLen; omega) (by have := HLe.out; omega) X3.out.hs ?_
                intro v5 w5 ho hg hv
                have X5 := Lib.hid (X3.out.more HX.out hcs1 hcs3 hcs2 ho hg hv hgood)
                have KB5 : Hid (Blk w5 wq.heap.size 52 #[.string y.op, .string y.nm, .int .i64 y.n, .slice A' y.l.length cap', .int .i64 y.a]) := Lib.hid (KB3.out.grown hg (fun e => absurd (HVl.out _ e.symm) (Nat.lt_irrefl _)))
                have K5 := Lib.hid (HS2.out _ KB5.out)
                obtain ⟨A5, c5, rfl⟩ : ∃ A5 c5, v5 = .slice A5 (j + 1) c5 := by
                  rcases ho.2 with ⟨_, h0⟩ | ⟨g, cap, cur, e, _⟩
                  · omega
                  · exact ⟨_, _, e⟩
                clear ho hg hv hcs1 hcs2 hcs3 hgood
                refine hK.out _ _ K5.out (fun h5 => ?_)
                clear hK K'
                try simp only [Act.put, List.setIfInBounds_toArray, List.set_cons_zero, List.set_cons_succ]
                refine wpAnyH_take (i := 6) (oi := ⟨some 41, _, _, _, _, _⟩) (v := ?_) rfl (by kernel_rfl) (by kernel_rfl) (by kernel_rfl) (fun _ _ _ h => h) (Or.inl ⟨by rfl, ?_⟩) h5 ?_
                rotate_left
                · intro w hSw
                  try dsimp only at hSw
                  go_simp
                  try with_reducible rfl
                try simp only [Act.put, List.setIfInBounds_toArray, List.set_cons_zero, List.set_cons_succ]
                refine wpAnyH_ready (rs := [7]) (by kernel_rfl) (by simp) ?_
                refine (AllReadyH.cons (o := ⟨none, _, _, _, _, _⟩) rfl (fun K' hK => ?_) AllReadyH.nil)
                have t0 := X5.out.b6.cell 2
                have t1 := X5.out.b6.frozen 2
                have t2 := X5.out.b6.lt
                simp at t0
                have K6 := Lib.hid (HS2.out _ (KB5.out.far (p := ⟨pz, 2, none⟩) (Nat.ne_of_gt HGt.out) (.slice A5 (j + 1) c5)))
                go_simp
                refine hK.out _ _ K6.out (fun h6 => ?_)
                clear hK K'
                try simp only [Act.put, List.setIfInBounds_toArray, List.set_cons_zero, List.set_cons_succ]
                clear t0 t1 t2
                refine wpAnyH_done (by kernel_rfl) ?_ _
                have X6 := Lib.hid (X5.out.put)
                obtain ⟨w6, hw6⟩ : ∃ x, w5.setCell ⟨pz, 2, none⟩ (.slice A5 (j + 1) c5) = x := ⟨_, rfl⟩
                rw [hw6] at X6 ⊢
                clear hw6
                go_wp2_with fail
                go_roundw
                case rel => exact ⟨j + 1, .slice A5 (j + 1) c5, by go_num, hjt, X6.out⟩
                case measure => simp [RowKit.intOf]; omega
              · go_simp
                refine (HCx.out _ B1.out).mono ?_
                rintro e w2 ⟨L2, rfl, hL2, hb⟩
                have B2 : Hid (Below W3.heap.size W3 w2) := Lib.hid (thru B1.out hb)
                have Xw2 := Lib.hid (XW3.out.below B2.out)
                have KB2 := Lib.hid (KB1.out.below B2.out KB1.out.lt)
                have K2 := Lib.hid (HS2.out _ KB2.out)
                have HL2 := Lib.hid hL2
                obtain ⟨A2, c2, rfl, -, -⟩ := hL2.slice
                clear hb hL2
                go_wp2_with fail
                refine hK.out _ _ K2.out (fun h2 => ?_)
                clear hK K'
                try simp only [Act.put, List.setIfInBounds_toArray, List.set_cons_zero, List.set_cons_succ]
                refine wpAnyH_ready (rs := [1, 4]) (by kernel_rfl) (by simp) ?_
                refine (AllReadyH.cons (o := ⟨some 36, _, _, _, _, _⟩) rfl (fun K' hK => ?_) (AllReadyH.cons (o := ⟨some 39, _, _, _, _, _⟩) rfl (fun K' hK => ?_) AllReadyH.nil))
                · have tf : w2.cell? ⟨pz, 2, none⟩ = some ve := Xw2.out.b6.cell 2
                  go_simp
                  refine hK.out _ _ K2.out (fun h3 => ?_)
                  clear hK K'
                  try simp only [Act.put, List.setIfInBounds_toArray, List.set_cons_zero, List.set_cons_succ]
                  clear tf
                  refine wpAnyH_ready (rs := [4]) (by kernel_rfl) (by simp) ?_
                  refine (AllReadyH.cons (o := ⟨some 39, _, _, _, _, _⟩) rfl (fun K' hK => ?_) AllReadyH.nil)
                  have B3 : Hid (Below w2.heap.size w2 (w2.alloc (.cells #[.string y.op, .string y.nm, .int .i64 y.n, .slice A2 y.l.length c2, .int .i64 y.a] 118))) := Lib.hid ((Below.refl _ _).alloc (Nat.le_refl _) _)
                  have X3 := Lib.hid (Xw2.out.below B3.out)
                  have KB3 := Lib.hid (KB2.out.below B3.out KB2.out.lt)
                  have K3 := Lib.hid (HS2.out _ KB3.out)
                  have N3 := Lib.hid (Blk.new w2 118 #[.string y.op, .string y.nm, .int .i64 y.n, .slice A2 y.l.length c2, .int .i64 y.a])
                  go_simp
                  refine hK.out _ _ K3.out (fun h4 => ?_)
                  clear hK K'
                  try simp only [Act.put, List.setIfInBounds_toArray, List.set_cons_zero, List.set_cons_succ]
                  refine wpAnyH_ready (rs := [5]) (by kernel_rfl) (by simp) ?_
                  refine (AllReadyH.cons (o := ⟨some 40, _, _, _, _, _⟩) rfl (fun K' hK => ?_) AllReadyH.nil)
                  obtain ⟨css, hcs1, hcs2, hcs3⟩ := X3.out.own
                  rw [HTl.out] at hcs2
                  rw [if_pos (by rfl)]
                  have hgood : [Value.string y.op, .string y.nm, .int .i64 y.n, .slice A2 y.l.length c2, .int .i64 y.a].length = 5 ∧ (kEx n').good (fun b => H ≤ b ∧ b < (w2.alloc (.cells #[.string y.op, .string y.nm, .int .i64 y.n, .slice A2 y.l.length c2, .int .i64 y.a] 118)).heap.size ∧ ve.ownBlock ≠ some b) (w2.alloc (.cells #[.string y.op, .string y.nm, .int .i64 y.n, .slice A2 y.l.length c2, .int .i64 y.a] 118)) y [.string y.op, .string y.nm, .int .i64 y.n, .slice A2 y.l.length c2, .int .i64 y.a] :=
                    ⟨rfl, _, rfl, HIn.out.1, HIn.out.2, (HL2.out.below B3.out (fun b q => q.2)).wide (fun b q => ⟨Nat.le_trans XW3.out.hs q.1, Nat.lt_of_lt_of_le q.2 B3.out.size, fun e => absurd (XW3.out.own.lt b e).2 (Nat.not_lt.2 q.1)⟩)⟩
                  refine wp_append_at (.tmp 36) (.tmp 39) 112 rfl H 118 i0 (.agg #[.string ⟨#[]⟩, .string ⟨#[]⟩, .int .i64 0, .slice none 0 0, .int .i64 0]) 5 72 Tryz.underlying112 HI0.out.1 HI0.out.2.1 HI0.out.2.2.1 HI0.out.2.2.2 rfl (by decide) ve j css.flatten rfl hcs2 ⟨w2.heap.size, 0, none⟩ 1 1 [.string y.op, .string y.nm, .int .i64 y.n, .slice A2 y.l.length c2, .int .i64 y.a] rfl rfl (news_five N3.out) (one_five _ _ _ _ _ _ _) (by unfold maxLen; omega) (by have := HLe.out; omega) X3.out.hs ?_
                  intro v5 w5 ho hg hv
                  have X5 := Lib.hid (X3.out.more HX.out hcs1 hcs3 hcs2 ho hg hv hgood)
                  have KB5 : Hid (Blk w5 wq.heap.size 52 #[.string y.op, .string y.nm, .int .i64 y.n, .slice A' y.l.length cap', .int .i64 y.a]) := Lib.hid (KB3.out.grown hg (fun e => absurd (HVl.out _ e.symm) (Nat.lt_irrefl _)))
                  have K5 := Lib.hid (HS2.out _ KB5.out)
                  obtain ⟨A5, c5, rfl⟩ : ∃ A5 c5, v5 = .slice A5 (j + 1) c5 := by
                    rcases ho.2 with ⟨_, h0⟩ | ⟨g, cap, cur, e, _⟩
                    · omega
                    · exact ⟨_, _, e⟩
                  clear ho hg hv hcs1 hcs2 hcs3 hgood
                  refine hK.out _ _ K5.out (fun h5 => ?_)
                  clear hK K'
                  try simp only [Act.put, List.setIfInBounds_toArray, List.set_cons_zero, List.set_cons_succ]
                  refine wpAnyH_take (i := 6) (oi := ⟨some 41, _, _, _, _, _⟩) (v := ?_) rfl (by kernel_rfl) (by kernel_rfl) (by kernel_rfl) (fun _ _ _ h => h) (Or.inl ⟨by rfl, ?_⟩) h5 ?_
                  rotate_left
                  · intro w hSw
                    try dsimp only at hSw
                    go_simp
                    try with_reducible rfl
                  try simp only [Act.put, List.setIfInBounds_toArray, List.set_cons_zero, List.set_cons_succ]
                  refine wpAnyH_ready (rs := [7]) (by kernel_rfl) (by simp) ?_
                  refine (AllReadyH.cons (o := ⟨none, _, _, _, _, _⟩) rfl (fun K' hK => ?_) AllReadyH.nil)
                  have t0 := X5.out.b6.cell 2
                  have t1 := X5.out.b6.frozen 2
                  have t2 := X5.out.b6.lt
                  simp at t0
                  have K6 := Lib.hid (HS2.out _ (KB5.out.far (p := ⟨pz, 2, none⟩) (Nat.ne_of_gt HGt.out) (.slice A5 (j + 1) c5)))
                  go_simp
                  refine hK.out _ _ K6.out (fun h6 => ?_)
                  clear hK K'
                  try simp only [Act.put, List.setIfInBounds_toArray, List.set_cons_zero, List.set_cons_succ]
                  clear t0 t1 t2
                  refine wpAnyH_done (by kernel_rfl) ?_ _
                  have X6 := Lib.hid (X5.out.put)
                  obtain ⟨w6, hw6⟩ : ∃ x, w5.setCell ⟨pz, 2, none⟩ (.slice A5 (j + 1) c5) = x := ⟨_, rfl⟩
                  rw [hw6] at X6 ⊢
                  clear hw6
                  go_wp2_with fail
                  go_roundw
                  case rel => exact ⟨j + 1, .slice A5 (j + 1) c5, by go_num, hjt, X6.out⟩
                  case measure => simp [RowKit.intOf]; omega
                · have B3 : Hid (Below w2.heap.size w2 (w2.alloc (.cells #[.string y.op, .string y.nm, .int .i64 y.n, .slice A2 y.l.length c2, .int .i64 y.a] 118))) := Lib.hid ((Below.refl _ _).alloc (Nat.le_refl _) _)
                  have X3 := Lib.hid (Xw2.out.below B3.out)
                  have KB3 := Lib.hid (KB2.out.below B3.out KB2.out.lt)
                  have K3 := Lib.hid (HS2.out _ KB3.out)
                  have N3 := Lib.hid (Blk.new w2 118 #[.string y.op, .string y.nm, .int .i64 y.n, .slice A2 y.l.length c2, .int .i64 y.a])
                  go_simp
                  refine hK.out _ _ K3.out (fun h3 => ?_)
                  clear hK K'
                  try simp only [Act.put, List.setIfInBounds_toArray, List.set_cons_zero, List.set_cons_succ]
                  refine wpAnyH_ready (rs := [1]) (by kernel_rfl) (by simp) ?_
                  refine (AllReadyH.cons (o := ⟨some 36, _, _, _, _, _⟩) rfl (fun K' hK => ?_) AllReadyH.nil)
                  have tf : (w2.alloc (.cells #[.string y.op, .string y.nm, .int .i64 y.n, .slice A2 y.l.length c2, .int .i64 y.a] 118)).cell? ⟨pz, 2, none⟩ = some ve := X3.out.b6.cell 2
                  go_simp
                  refine hK.out _ _ K3.out (fun h4 => ?_)
                  clear hK K'
                  try simp only [Act.put, List.setIfInBounds_toArray, List.set_cons_zero, List.set_cons_succ]
                  clear tf
                  refine wpAnyH_ready (rs := [5]) (by kernel_rfl) (by simp) ?_
                  refine (AllReadyH.cons (o := ⟨some 40, _, _, _, _, _⟩) rfl (fun K' hK => ?_) AllReadyH.nil)
                  obtain ⟨css, hcs1, hcs2, hcs3⟩ := X3.out.own
                  rw [HTl.out] at hcs2
                  rw [if_pos (by rfl)]
                  have hgood : [Value.string y.op, .string y.nm, .int .i64 y.n, .slice A2 y.l.length c2, .int .i64 y.a].length = 5 ∧ (kEx n').good (fun b => H ≤ b ∧ b < (w2.alloc (.cells #[.string y.op, .string y.nm, .int .i64 y.n, .slice A2 y.l.length c2, .int .i64 y.a] 118)).heap.size ∧ ve.ownBlock ≠ some b) (w2.alloc (.cells #[.string y.op, .string y.nm, .int .i64 y.n, .slice A2 y.l.length c2, .int .i64 y.a] 118)) y [.string y.op, .string y.nm, .int .i64 y.n, .slice A2 y.l.length c2, .int .i64 y.a] :=
                    ⟨rfl, _, rfl, HIn.out.1, HIn.out.2, (HL2.out.below B3.out (fun b q => q.2)).wide (fun b q => ⟨Nat.le_trans XW3.out.hs q.1, Nat.lt_of_lt_of_le q.2 B3.out.size, fun e => absurd (XW3.out.own.lt b e).2 (Nat.not_lt.2 q.1)⟩)⟩
                  refine wp_append_at (.tmp 36) (.tmp 39) 112 rfl H 118 i0 (.agg #[.string ⟨#[]⟩, .string ⟨#[]⟩, .int .i64 0, .slice none 0 0, .int .i64 0]) 5 72 Tryz.underlying112 HI0.out.1 HI0.out.2.1 HI0.out.2.2.1 HI0.out.2.2.2 rfl (by decide) ve j css.flatten rfl hcs2 ⟨w2.heap.size, 0, none⟩ 1 1 [.string y.op, .string y.nm, .int .i64 y.n, .slice A2 y.l.length c2, .int .i64 y.a] rfl rfl (news_five N3.out) (one_five _ _ _ _ _ _ _) (by unfold maxLen; omega) (by have := HLe.out; omega) X3.out.hs ?_
                  intro v5 w5 ho hg hv
                  have X5 := Lib.hid (X3.out.more HX.out hcs1 hcs3 hcs2 ho hg hv hgood)
                  have KB5 : Hid (Blk w5 wq.heap.size 52 #[.string y.op, .string y.nm, .int .i64 y.n, .slice A' y.l.length cap', .int .i64 y.a]) := Lib.hid (KB3.out.grown hg (fun e => absurd (HVl.out _ e.symm) (Nat.lt_irrefl _)))
                  have K5 := Lib.hid (HS2.out _ KB5.out)
                  obtain ⟨A5, c5, rfl⟩ : ∃ A5 c5, v5 = .slice A5 (j + 1) c5 := by
                    rcases ho.2 with ⟨_, h0⟩ | ⟨g, cap, cur, e, _⟩
                    · omega
                    · exact ⟨_, _, e⟩
                  clear ho hg hv hcs1 hcs2 hcs3 hgood
                  refine hK.out _ _ K5.out (fun h5 => ?_)
                  clear hK K'
                  try simp only [Act.put, List.setIfInBounds_toArray, List.set_cons_zero, List.set_cons_succ]
                  refine wpAnyH_take (i := 6) (oi := ⟨some 41, _, _, _, _, _⟩) (v := ?_) rfl (by kernel_rfl) (by kernel_rfl) (by kernel_rfl) (fun _ _ _ h => h) (Or.inl ⟨by rfl, ?_⟩) h5 ?_
                  rotate_left
                  · intro w hSw
                    try dsimp only at hSw
                    go_simp
                    try with_reducible rfl
                  try simp only [Act.put, List.setIfInBounds_toArray, List.set_cons_zero, List.set_cons_succ]
                  refine wpAnyH_ready (rs := [7]) (by kernel_rfl) (by simp) ?_
                  refine (AllReadyH.cons (o := ⟨none, _, _, _, _, _⟩) rfl (fun K' hK => ?_) AllReadyH.nil)
                  have t0 := X5.out.b6.cell 2
                  have t1 := X5.out.b6.frozen 2
                  have t2 := X5.out.b6.lt
                  simp at t0
                  have K6 := Lib.hid (HS2.out _ (KB5.out.far (p := ⟨pz, 2, none⟩) (Nat.ne_of_gt HGt.out) (.slice A5 (j + 1) c5)))
                  go_simp
                  refine hK.out _ _ K6.out (fun h6 => ?_)
                  clear hK K'
                  try simp only [Act.put, List.setIfInBounds_toArray, List.set_cons_zero, List.set_cons_succ]
                  clear t0 t1 t2
                  refine wpAnyH_done (by kernel_rfl) ?_ _
                  have X6 := Lib.hid (X5.out.put)
                  obtain ⟨w6, hw6⟩ : ∃ x, w5.setCell ⟨pz, 2, none⟩ (.slice A5 (j + 1) c5) = x := ⟨_, rfl⟩
                  rw [hw6] at X6 ⊢
                  clear hw6
                  go_wp2_with fail
                  go_roundw
                  case rel => exact ⟨j + 1, .slice A5 (j + 1) c5, by go_num, hjt, X6.out⟩
                  case measure => simp [RowKit.intOf]; omega
            · have hje : j = x.e.length := by omega
              subst hje
              have hTe : x.e.take x.e.length = x.e := List.take_length
              rw [hTe] at HSQ
              clear hTe
              obtain ⟨Av, cv, rfl⟩ : ∃ Av cv, ve = .slice Av x.e.length cv := by
                obtain ⟨A9, c9, e, -⟩ := HSQ.out.own.row
                exact ⟨_, _, e⟩
              have HBa : Hid (Below wq.heap.size wq (wq.alloc (.cells #[.string x.op, .string x.nm, .slice Av x.e.length cv, .slice Aa2 x.A.length ca2, .slice Ab2 x.B.length cb2, .int .i64 x.a] 114))) := Lib.hid ((Below.refl _ _).alloc (Nat.le_refl _) _)
              have N4 := Lib.hid (Blk.new wq 114 #[.string x.op, .string x.nm, .slice Av x.e.length cv, .slice Aa2 x.A.length ca2, .slice Ab2 x.B.length cb2, .int .i64 x.a])
              have X4 := Lib.hid (HSQ.out.below HBa.out)
              have HBall := Lib.hid (thru (thru HB1.out HSQ.out.low) HBa.out)
              have HO2 := Lib.hid (HOw.out.below HBall.out)
              have hgood : [Value.string x.op, .string x.nm, .slice Av x.e.length cv, .slice Aa2 x.A.length ca2, .slice Ab2 x.B.length cb2, .int .i64 x.a].length = 6 ∧ (kSt n).good (fun b => W.heap.size ≤ b ∧ b < (wq.alloc (.cells #[.string x.op, .string x.nm, .slice Av x.e.length cv, .slice Aa2 x.A.length ca2, .slice Ab2 x.B.length cb2, .int .i64 x.a] 114)).heap.size ∧ u3.ownBlock ≠ some b) (wq.alloc (.cells #[.string x.op, .string x.nm, .slice Av x.e.length cv, .slice Aa2 x.A.length ca2, .slice Ab2 x.B.length cb2, .int .i64 x.a] 114)) x [.string x.op, .string x.nm, .slice Av x.e.length cv, .slice Aa2 x.A.length ca2, .slice Ab2 x.B.length cb2, .int .i64 x.a] := by
                have hlo : ∀ b, W1.heap.size ≤ b → W.heap.size ≤ b ∧ u3.ownBlock ≠ some b := fun b hb => ⟨Nat.le_trans (Nat.le_trans HBw.out.size HB1.out.size) hb, fun e => absurd (HOw.out.lt b e).2 (Nat.not_lt.2 (Nat.le_trans HB1.out.size hb))⟩
                have hx1 := own_ex X4.out.own HLe.out
                rw [← HN.out] at hx1
                refine ⟨rfl, _, _, _, rfl, HIn0.out, hx1.wide (fun b q => ?_), X4.out.rA.wide (fun b q => ?_), X4.out.rB.wide (fun b q => ?_)⟩
                · have := hlo b (Nat.le_trans (Nat.le_trans X4.out.p1 (Nat.le_of_lt X4.out.pH)) q.1)
                  exact ⟨this.1, q.2, this.2⟩
                · exact ⟨(hlo b q.1).1, Nat.lt_of_lt_of_le q.2.1 X4.out.hs, (hlo b q.1).2⟩
                · exact ⟨(hlo b q.1).1, Nat.lt_of_lt_of_le q.2.1 X4.out.hs, (hlo b q.1).2⟩
              have HGd := Lib.hid hgood
              have o0 := HSQ.out.b6.cell 0
              have o1 := HSQ.out.b6.cell 1
              have o2 := HSQ.out.b6.cell 2
              have o3 := HSQ.out.b6.cell 3
              have o4 := HSQ.out.b6.cell 4
              have o5 := HSQ.out.b6.cell 5
              simp at o0 o1 o2 o3 o4 o5
              obtain ⟨css, hcs1, hcs2, hcs3⟩ := HO2.out
              rw [HTl0.out] at hcs2
              have C1 := Lib.hid hcs1
              have C2 := Lib.hid hcs2
              have C3 := Lib.hid hcs3
              clear hcs1 hcs2 hcs3 hgood z2
              go_wp2_with (at_builtin; refine wpList_append_at rfl _ _ 36 rfl W.heap.size 114 i1 (.agg #[.string ⟨#[]⟩, .string ⟨#[]⟩, .slice none 0 0, .slice none 0 0, .slice none 0 0, .int .i64 0]) 6 112 Tryz.underlying36 HI1.out.1 HI1.out.2.1 HI1.out.2.2.1 HI1.out.2.2.2 rfl (by decide) u3 k css.flatten rfl C2.out ⟨wq.heap.size, 0, none⟩ 1 1 [.string x.op, .string x.nm, .slice Av x.e.length cv, .slice Aa2 x.A.length ca2, .slice Ab2 x.B.length cb2, .int .i64 x.a] rfl rfl (news_six N4.out) (one_six _ _ _ _ _ _ _ _ _ _ _ _) (by unfold maxLen; omega) (by have := HLim.out; omega) (Nat.le_trans HBw.out.size HBall.out.size) ?_; intro v5 w5 ho hg hv; have O5 : Hid (OwnL (kSt n) 114 6 W.heap.size w5 v5 (l.take k ++ [x])) := Lib.hid (OwnL.more C1.out C3.out (by rw [HTl0.out]; exact ho) hg hv HGd.out.1 HGd.out.2); have B5 : Hid (Below W.heap.size W w5) := Lib.hid (Below.grown (thru HBw.out HBall.out) hg (thru HBw.out HBall.out).size (fun g e => (C2.out.lt g e).1)); clear ho hg hv)
              rw [← take_one HX0.out] at O5
              go_roundw
              case rel => exact ⟨k + 1, by go_num, hlt, O5.out, B5.out⟩
              case measure => simp [RowKit.intOf]; omega
      · have he : k = m := by omega
        subst he
        have hT : l.take k = l := by rw [← HM.out, List.take_length]
        have HO := HOw.out
        rw [hT] at HO
        have HZ := Lib.hid (own_st HO (by rw [HM.out]; exact HLim.out))
        obtain ⟨A9, c9, rfl⟩ : ∃ A9 c9, u3 = .slice A9 k c9 := by
          obtain ⟨A9, c9, e, -⟩ := HO.row
          rw [HM.out] at e
          exact ⟨_, _, e⟩
        clear HO hT
        go_wp2_with fail
        go_ret
        exact ⟨_, rfl, HZ.out, HBw.out⟩
end Go.Proofs.YteaongdlbleehaaGreatDoor.Old

/- The parse layer: the document's tree of the program's (TrProgS turned). -/
namespace Go.Proofs.YteaongdlbleehaaGreatDoor.Old
open Go.Proofs.YteaongdlbleehaaGreatDoor
open Go.RowKit
theorem enfo : (Tryz.prog.info? 68).map (fun i => (i.zero, i.size, i.bytes)) = some (some (.agg #[.string ⟨#[]⟩, .slice none 0 0]), 2, 40) := by kernel_rfl
theorem vafo : (Tryz.prog.info? 71).map (fun i => (i.zero, i.size, i.bytes)) = some (some (.agg #[.string ⟨#[]⟩, .string ⟨#[]⟩, .int .i64 0]), 3, 40) := by kernel_rfl
theorem prfo : (Tryz.prog.info? 63).map (fun i => (i.zero, i.size, i.bytes)) = some (some (.agg #[.string ⟨#[]⟩, .slice none 0 0]), 2, 40) := by kernel_rfl
theorem news_two {w : World} {g : Nat} {t : TypeId} {a b : Value} (h : Blk w g t #[a, b]) : ∀ (j : Nat) (u : Value), [a, b][j]? = some u → w.cell? ((⟨g, 0, none⟩ : Addr).add j) = some u := fun j u hu => by
  rw [Addr.add_lit, Nat.zero_add]
  exact (h.cell j).trans (by simpa using hu)
theorem news_three {w : World} {g : Nat} {t : TypeId} {a b c : Value} (h : Blk w g t #[a, b, c]) : ∀ (j : Nat) (u : Value), [a, b, c][j]? = some u → w.cell? ((⟨g, 0, none⟩ : Addr).add j) = some u := fun j u hu => by
  rw [Addr.add_lit, Nat.zero_add]
  exact (h.cell j).trans (by simpa using hu)
theorem one_two (a : ByteArray) (A : Option Addr) (n cap : Nat) : ∀ u ∈ [Value.string a, Value.slice A n cap], u.oneCell' = true := by
  intro u hu
  simp at hu
  rcases hu with rfl | rfl <;> rfl
theorem one_three (a b : ByteArray) (k : Int) : ∀ u ∈ [Value.string a, Value.string b, Value.int .i64 k], u.oneCell' = true := by
  intro u hu
  simp at hu
  rcases hu with rfl | rfl | rfl <;> rfl
theorem nil_own (g : Nat) : (Value.slice none 0 0).ownBlock ≠ some g := fun e => by cases e
/-- Enums, whose rows lie in the first world; variables; procedures. -/
def kEn (W : World) : Kind (ByteArray × List ByteArray) where
  good _ _ x cs := ∃ L, cs = [.string x.1, L] ∧ StrR (fun b => b < W.heap.size) W x.2 L
  mono _ h := h
  kept _ h := h
def kVa : Kind (ByteArray × ByteArray × Int) where
  good _ _ x cs := cs = [.string x.1, .string x.2.1, .int .i64 x.2.2] ∧ In64 x.2.2
  mono _ h := h
  kept _ h := h
def kPr (n : Nat) : Kind (ByteArray × List St) where
  good P w x cs := ∃ L, cs = [.string x.1, L] ∧ StR P n w x.2 L
  mono h := fun ⟨L, h1, h2⟩ => ⟨L, h1, h2.wide h⟩
  kept h := fun ⟨L, h1, h2⟩ => ⟨L, h1, h2.kept h⟩
theorem own_en {W w : World} {base g : Nat} {T : TypeId} {v : Value} {l : List (ByteArray × List ByteArray)} (h : OwnL (kEn W) T 2 base w v l) (hb : Below W.heap.size W w) (hl : l.length * 40 ≤ 140737488355328) (hg : W.heap.size ≤ g) (hg2 : g < base) : EnR (fun b => b < w.heap.size ∧ b ≠ g) w l v := by
  obtain ⟨A, cap, h1, h2, h3⟩ := h.row
  refine ⟨A, cap, h1, h2, hl, fun i x hx => ?_⟩
  obtain ⟨b, cs, e1, e2, e3, e4, L, rfl, e5⟩ := h3 i x hx
  exact ⟨b, 0, L, e1, ⟨e2.2, Nat.ne_of_gt (Nat.lt_of_lt_of_le hg2 e2.1)⟩, by rw [Nat.zero_add]; exact ⟨e4 0 (by omega), e4 1 (by omega)⟩, (e5.kept (fun b q => hb.block b q)).wide (fun b q => ⟨Nat.lt_of_lt_of_le q hb.size, Nat.ne_of_lt (Nat.lt_of_lt_of_le q hg)⟩)⟩
theorem own_va {w : World} {base g : Nat} {T : TypeId} {v : Value} {l : List (ByteArray × ByteArray × Int)} (h : OwnL kVa T 3 base w v l) (hl : l.length * 40 ≤ 140737488355328) (hg2 : g < base) : VaR (fun b => b < w.heap.size ∧ b ≠ g) w l v := by
  obtain ⟨A, cap, h1, h2, h3⟩ := h.row
  refine ⟨A, cap, h1, h2, hl, fun i x hx => ?_⟩
  obtain ⟨b, cs, e1, e2, e3, e4, rfl, e5⟩ := h3 i x hx
  exact ⟨b, 0, e1, ⟨e2.2, Nat.ne_of_gt (Nat.lt_of_lt_of_le hg2 e2.1)⟩, by rw [Nat.zero_add]; exact ⟨e4 0 (by omega), e4 1 (by omega), e4 2 (by omega)⟩, e5⟩
theorem own_pr {n : Nat} {w : World} {base g : Nat} {T : TypeId} {v : Value} {l : List (ByteArray × List St)} (h : OwnL (kPr n) T 2 base w v l) (hl : l.length * 40 ≤ 140737488355328) (hg2 : g < base) : PrR (fun b => b < w.heap.size ∧ b ≠ g) n w l v := by
  obtain ⟨A, cap, h1, h2, h3⟩ := h.row
  refine ⟨A, cap, h1, h2, hl, fun i x hx => ?_⟩
  obtain ⟨b, cs, e1, e2, e3, e4, L, rfl, e5⟩ := h3 i x hx
  exact ⟨b, 0, L, e1, ⟨e2.2, Nat.ne_of_gt (Nat.lt_of_lt_of_le hg2 e2.1)⟩, by rw [Nat.zero_add]; exact ⟨e4 0 (by omega), e4 1 (by omega)⟩, e5.wide (fun b q => ⟨q.2, Nat.ne_of_gt (Nat.lt_of_lt_of_le hg2 q.1)⟩)⟩
theorem four_kept {w : World} {g : Nat} (a b c d : Value) (i j k m : Nat) : (∀ x, x ≠ g → ((((w.setCell ⟨g, i, none⟩ a).setCell ⟨g, j, none⟩ b).setCell ⟨g, k, none⟩ c).setCell ⟨g, m, none⟩ d).heap[x]? = w.heap[x]?) ∧ ((((w.setCell ⟨g, i, none⟩ a).setCell ⟨g, j, none⟩ b).setCell ⟨g, k, none⟩ c).setCell ⟨g, m, none⟩ d).heap.size = w.heap.size := by
  refine ⟨fun x hx => ?_, by simp [World.setCell]⟩
  rw [Below.heap_setCell _ _ _ _ hx, Below.heap_setCell _ _ _ _ hx, Below.heap_setCell _ _ _ _ hx, Below.heap_setCell _ _ _ _ hx]
/-- A row whose elements lead nowhere new is left by what grows beside it. -/
theorem OwnL.aside {α : Type} {κ : Kind α} {T : TypeId} {k base : Nat} {w w' : World} {v : Value} {l : List α} {o : Option Nat} (h : OwnL κ T k base w v l) (hg : w.grownBy w' o) (hne : ∀ g, v.ownBlock = some g → o ≠ some g)
    (hκ : ∀ (P P' : Nat → Prop) (u u' : World) (x : α) (cs : List Value), κ.good P u x cs → κ.good P' u' x cs) : OwnL κ T k base w' v l := by
  obtain ⟨css, h1, h2, h3⟩ := h
  refine ⟨css, h1, ⟨h2.1, ?_⟩, fun i x cs hx hc => ⟨(h3 i x cs hx hc).1, hκ _ _ _ _ _ _ (h3 i x cs hx hc).2⟩⟩
  rcases h2.2 with q | ⟨g, cap, cur, e1, e2, e3, r⟩
  · exact .inl q
  · exact .inr ⟨g, cap, cur, e1, e2, (hg.block g (Array.getElem?_eq_some_iff.1 e3).1 (fun e => hne g (by rw [e1]; rfl) e.symm)).trans e3, r⟩
/-- While Prog goes: its box (what it holds; what the rows are by now), and the three rows. -/
structure PI (W w1 : World) (n : Nat) (vM bE bV bP vE vV vP : Value) (lE : List (ByteArray × List ByteArray)) (lV : List (ByteArray × ByteArray × Int)) (lP : List (ByteArray × List St)) (w : World) : Prop where
  low : Below w1.heap.size w1 w
  box : Blk w w1.heap.size 38 #[bE, bV, bP, vM]
  en : OwnL (kEn W) 68 2 (w1.heap.size + 1) w vE lE
  va : OwnL kVa 71 3 (w1.heap.size + 1) w vV lV
  pr : OwnL (kPr n) 63 2 (w1.heap.size + 1) w vP lP
  f1 : ∀ g, vE.ownBlock = some g → vV.ownBlock ≠ some g ∧ vP.ownBlock ≠ some g
  f2 : ∀ g, vV.ownBlock = some g → vP.ownBlock ≠ some g
section
variable {W w1 w w' : World} {n : Nat} {vM bE bV bP vE vV vP : Value} {lE : List (ByteArray × List ByteArray)} {lV : List (ByteArray × ByteArray × Int)} {lP : List (ByteArray × List St)}
theorem PI.base (h : PI W w1 n vM bE bV bP vE vV vP lE lV lP w) : w1.heap.size + 1 ≤ w.heap.size := h.box.lt
theorem PI.below (h : PI W w1 n vM bE bV bP vE vV vP lE lV lP w) (hb : Below w.heap.size w w') : PI W w1 n vM bE bV bP vE vV vP lE lV lP w' :=
  ⟨h.low.trans (hb.mono h.low.size), h.box.below hb h.box.lt, h.en.below hb, h.va.below hb, h.pr.below hb, h.f1, h.f2⟩
theorem PI.putE (h : PI W w1 n vM bE bV bP vE vV vP lE lV lP w) : PI W w1 n vM vE bV bP vE vV vP lE lV lP (w.setCell ⟨w1.heap.size, 0, none⟩ vE) :=
  ⟨h.low.setCell (p := ⟨w1.heap.size, 0, none⟩) (Nat.le_refl _) _, h.box.set_ 0 _, h.en.set_ _ _ (Nat.lt_succ_self _), h.va.set_ _ _ (Nat.lt_succ_self _), h.pr.set_ _ _ (Nat.lt_succ_self _), h.f1, h.f2⟩
theorem PI.putV (h : PI W w1 n vM bE bV bP vE vV vP lE lV lP w) : PI W w1 n vM bE vV bP vE vV vP lE lV lP (w.setCell ⟨w1.heap.size, 1, none⟩ vV) :=
  ⟨h.low.setCell (p := ⟨w1.heap.size, 1, none⟩) (Nat.le_refl _) _, h.box.set_ 1 _, h.en.set_ _ _ (Nat.lt_succ_self _), h.va.set_ _ _ (Nat.lt_succ_self _), h.pr.set_ _ _ (Nat.lt_succ_self _), h.f1, h.f2⟩
theorem PI.putP (h : PI W w1 n vM bE bV bP vE vV vP lE lV lP w) : PI W w1 n vM bE bV vP vE vV vP lE lV lP (w.setCell ⟨w1.heap.size, 2, none⟩ vP) :=
  ⟨h.low.setCell (p := ⟨w1.heap.size, 2, none⟩) (Nat.le_refl _) _, h.box.set_ 2 _, h.en.set_ _ _ (Nat.lt_succ_self _), h.va.set_ _ _ (Nat.lt_succ_self _), h.pr.set_ _ _ (Nat.lt_succ_self _), h.f1, h.f2⟩
theorem low_grown {o : Option Nat} (h : Below w1.heap.size w1 w) (hg : w.grownBy w' o) (ho : ∀ g, o = some g → w1.heap.size + 1 ≤ g) : Below w1.heap.size w1 w' :=
  Below.grown h hg h.size (fun g e => Nat.le_of_succ_le (ho g e))
theorem PI.moreE {x : ByteArray × List ByteArray} {k : Nat} {L : List (ByteArray × List ByteArray)} {v' : Value} {cs : List Value} {css : List (List Value)} (h : PI W w1 n vM bE bV bP vE (.slice none 0 0) (.slice none 0 0) (L.take k) [] [] w) (hx : L[k]? = some x) (h1 : css.length = (L.take k).length)
    (h3 : ∀ (i : Nat) x cs, (L.take k)[i]? = some x → css[i]? = some cs → cs.length = 2 ∧ (kEn W).good (fun b => w1.heap.size + 1 ≤ b ∧ b < w.heap.size ∧ vE.ownBlock ≠ some b) w x cs)
    (h2 : w.ownsRow (w1.heap.size + 1) 68 2 vE k css.flatten)
    (ho : w'.ownsRow (w1.heap.size + 1) 68 2 v' (k + 1) (css.flatten ++ cs)) (hg : w.grownBy w' vE.ownBlock) (hv : v'.ownBlock = vE.ownBlock ∨ v'.ownBlock = some w.heap.size)
    (hc : cs.length = 2 ∧ (kEn W).good (fun b => w1.heap.size + 1 ≤ b ∧ b < w.heap.size ∧ vE.ownBlock ≠ some b) w x cs) :
    PI W w1 n vM bE bV bP v' (.slice none 0 0) (.slice none 0 0) (L.take (k + 1)) [] [] w' := by
  have hk : k < L.length := (List.getElem?_eq_some_iff.1 hx).1
  have hlen : (L.take k).length = k := by rw [List.length_take]; omega
  refine ⟨low_grown h.low hg (fun g e => (h2.lt g e).1), h.box.grown hg (fun e => by have := (h2.lt _ e.symm).1; omega), ?_, OwnL.nil _ _, OwnL.nil _ _, fun g _ => ⟨nil_own g, nil_own g⟩, fun g e => absurd e (nil_own g)⟩
  rw [take_one hx]
  exact OwnL.more h1 h3 (by rw [hlen]; exact ho) hg hv hc.1 hc.2
theorem PI.moreV {x : ByteArray × ByteArray × Int} {k : Nat} {L : List (ByteArray × ByteArray × Int)} {v' : Value} {cs : List Value} {css : List (List Value)} (h : PI W w1 n vM bE bV bP vE vV (.slice none 0 0) lE (L.take k) [] w) (hx : L[k]? = some x) (h1 : css.length = (L.take k).length)
    (h3 : ∀ (i : Nat) x cs, (L.take k)[i]? = some x → css[i]? = some cs → cs.length = 3 ∧ kVa.good (fun b => w1.heap.size + 1 ≤ b ∧ b < w.heap.size ∧ vV.ownBlock ≠ some b) w x cs)
    (h2 : w.ownsRow (w1.heap.size + 1) 71 3 vV k css.flatten)
    (ho : w'.ownsRow (w1.heap.size + 1) 71 3 v' (k + 1) (css.flatten ++ cs)) (hg : w.grownBy w' vV.ownBlock) (hv : v'.ownBlock = vV.ownBlock ∨ v'.ownBlock = some w.heap.size)
    (hc : cs.length = 3 ∧ kVa.good (fun b => w1.heap.size + 1 ≤ b ∧ b < w.heap.size ∧ vV.ownBlock ≠ some b) w x cs) :
    PI W w1 n vM bE bV bP vE v' (.slice none 0 0) lE (L.take (k + 1)) [] w' := by
  have hk : k < L.length := (List.getElem?_eq_some_iff.1 hx).1
  have hlen : (L.take k).length = k := by rw [List.length_take]; omega
  refine ⟨low_grown h.low hg (fun g e => (h2.lt g e).1), h.box.grown hg (fun e => by have := (h2.lt _ e.symm).1; omega), h.en.aside hg (fun g e => (h.f1 g e).1) (fun _ _ _ _ _ _ q => q), ?_, OwnL.nil _ _, fun g e => ⟨?_, nil_own g⟩, fun g _ => nil_own g⟩
  · rw [take_one hx]
    exact OwnL.more h1 h3 (by rw [hlen]; exact ho) hg hv hc.1 hc.2
  · rcases hv with q | q
    · rw [q]; exact (h.f1 g e).1
    · rw [q]; intro e2; injection e2 with e2; have := (h.en.lt g e).2; omega
theorem PI.moreP {x : ByteArray × List St} {k : Nat} {L : List (ByteArray × List St)} {v' : Value} {cs : List Value} {css : List (List Value)} (h : PI W w1 n vM bE bV bP vE vV vP lE lV (L.take k) w) (hx : L[k]? = some x) (h1 : css.length = (L.take k).length)
    (h3 : ∀ (i : Nat) x cs, (L.take k)[i]? = some x → css[i]? = some cs → cs.length = 2 ∧ (kPr n).good (fun b => w1.heap.size + 1 ≤ b ∧ b < w.heap.size ∧ vP.ownBlock ≠ some b) w x cs)
    (h2 : w.ownsRow (w1.heap.size + 1) 63 2 vP k css.flatten)
    (ho : w'.ownsRow (w1.heap.size + 1) 63 2 v' (k + 1) (css.flatten ++ cs)) (hg : w.grownBy w' vP.ownBlock) (hv : v'.ownBlock = vP.ownBlock ∨ v'.ownBlock = some w.heap.size)
    (hc : cs.length = 2 ∧ (kPr n).good (fun b => w1.heap.size + 1 ≤ b ∧ b < w.heap.size ∧ vP.ownBlock ≠ some b) w x cs) :
    PI W w1 n vM bE bV bP vE vV v' lE lV (L.take (k + 1)) w' := by
  have hk : k < L.length := (List.getElem?_eq_some_iff.1 hx).1
  have hlen : (L.take k).length = k := by rw [List.length_take]; omega
  refine ⟨low_grown h.low hg (fun g e => (h2.lt g e).1), h.box.grown hg (fun e => by have := (h2.lt _ e.symm).1; omega), h.en.aside hg (fun g e => (h.f1 g e).2) (fun _ _ _ _ _ _ q => q), h.va.aside hg (fun g e => h.f2 g e) (fun _ _ _ _ _ _ q => q), ?_, fun g e => ⟨(h.f1 g e).1, ?_⟩, fun g e => ?_⟩
  · rw [take_one hx]
    exact OwnL.more h1 h3 (by rw [hlen]; exact ho) hg hv hc.1 hc.2
  · rcases hv with q | q
    · rw [q]; exact (h.f1 g e).2
    · rw [q]; intro e2; injection e2 with e2; have := (h.en.lt g e).2; omega
  · rcases hv with q | q
    · rw [q]; exact h.f2 g e
    · rw [q]; intro e2; injection e2 with e2; have := (h.va.lt g e).2; omega
theorem pi_new (W w1 : World) (n : Nat) (vM : Value) : PI W w1 n vM (.slice none 0 0) (.slice none 0 0) (.slice none 0 0) (.slice none 0 0) (.slice none 0 0) (.slice none 0 0) [] [] [] (w1.alloc (.cells #[.slice none 0 0, .slice none 0 0, .slice none 0 0, vM] 38)) :=
  ⟨(Below.refl _ _).alloc (Nat.le_refl _) _, Blk.new _ _ _, OwnL.nil _ _, OwnL.nil _ _, OwnL.nil _ _, fun g e => absurd e (nil_own g), fun g e => absurd e (nil_own g)⟩
end
/-- What Prog tells. -/
def RetPg (n : Nat) (p : Pg) (W : World) (e : Ending) (w' : World) : Prop :=
  ∃ vE vV vP vM, e = .returned (pgV vE vV vP vM) ∧ PgR (fun b => b < w'.heap.size) n w' p vE vV vP vM ∧ Below W.heap.size W w'
end Go.Proofs.YteaongdlbleehaaGreatDoor.Old

/- The parse layer: the document's tree of the program's (TrProg turned). -/
namespace Go.Proofs.YteaongdlbleehaaGreatDoor.Old
open Go.Proofs.YteaongdlbleehaaGreatDoor
open Go.RowKit
attribute [local go_sem ↓] Go.wp_at_zero Go.wp_at_succ
theorem row_slice {w : World} {base k n : Nat} {T : TypeId} {v : Value} {xs : List Value} (h : w.ownsRow base T k v (n + 1) xs) : ∃ A c, v = .slice A (n + 1) c := by
  rcases h.2 with ⟨_, h0⟩ | ⟨g, cap, cur, e, _⟩
  · omega
  · exact ⟨_, _, e⟩
set_option maxRecDepth 100000 in
set_option maxHeartbeats 12800000 in
theorem prog_any (n : Nat) (p : Pg) (vE vV vP vM : Value) (W : World) (h : PgR (fun b => b < W.heap.size) n W p vE vV vP vM) : Calls Tryz.prog 9 #[pgV vE vV vP vM] W (RetPg n p W) := by
  obtain ⟨A1, c1, rfl, hc1, hl1, hat1⟩ := h.en
  obtain ⟨A2, c2, rfl, hc2, hl2, hat2⟩ := h.va
  obtain ⟨A3, c3, rfl, hc3, hl3, hat3⟩ := h.pr
  obtain ⟨A4, c4, rfl, hc4, hl4⟩ := h.mn.slice
  have HM4 := Lib.hid h.mn
  have HAt1 := Lib.hid hat1
  have HAt2 := Lib.hid hat2
  have HAt3 := Lib.hid hat3
  have HLim1 := Lib.hid hl1
  have HLim2 := Lib.hid hl2
  have HLim3 := Lib.hid hl3
  have hz1 : p.enums.length ≤ 35184372088832 := by omega
  have hz2 : p.vars.length ≤ 35184372088832 := by omega
  have hz3 : p.procs.length ≤ 35184372088832 := by omega
  obtain ⟨i0, hi0, hq0, hq1, hq2⟩ := info_parts enfo
  have HI0 := Lib.hid (And.intro hi0 (And.intro hq0 (And.intro hq1 hq2)))
  clear hi0 hq0 hq1 hq2
  obtain ⟨i1, hi0, hq0, hq1, hq2⟩ := info_parts vafo
  have HI1 := Lib.hid (And.intro hi0 (And.intro hq0 (And.intro hq1 hq2)))
  clear hi0 hq0 hq1 hq2
  obtain ⟨i2, hi0, hq0, hq1, hq2⟩ := info_parts prfo
  have HI2 := Lib.hid (And.intro hi0 (And.intro hq0 (And.intro hq1 hq2)))
  clear hi0 hq0 hq1 hq2 hat1 hat2 hat3 hl1 hl2 hl3 hl4 hc4 h
  obtain ⟨m1, hm1⟩ : ∃ m, p.enums.length = m := ⟨_, rfl⟩
  obtain ⟨m2, hm2⟩ : ∃ m, p.vars.length = m := ⟨_, rfl⟩
  obtain ⟨m3, hm3⟩ : ∃ m, p.procs.length = m := ⟨_, rfl⟩
  have HN1 := Lib.hid hm1
  have HN2 := Lib.hid hm2
  have HN3 := Lib.hid hm3
  rw [hm1] at hz1 hc1 HLim1 ⊢
  rw [hm2] at hz2 hc2 HLim2 ⊢
  rw [hm3] at hz3 hc3 HLim3 ⊢
  clear hm1 hm2 hm3
  obtain ⟨Wa, hWa⟩ : ∃ Wa, Wa = W.alloc (.cells #[.slice A1 m1 c1, .slice A2 m2 c2, .slice A3 m3 c3, .slice A4 p.main.length c4] 28) := ⟨_, rfl⟩
  obtain ⟨W0, hW0⟩ : ∃ W0, W0 = Wa.alloc (.cells #[.slice none 0 0, .slice none 0 0, .slice none 0 0, .slice none 0 0] 38) := ⟨_, rfl⟩
  have hba : Below W.heap.size W Wa := by rw [hWa]; exact (Below.refl _ _).alloc (Nat.le_refl _) _
  have hbb : Below Wa.heap.size Wa W0 := by rw [hW0]; exact (Below.refl _ _).alloc (Nat.le_refl _) _
  have hsa : Wa.heap.size = W.heap.size + 1 := by rw [hWa, World.size_alloc]
  have hsb : W0.heap.size = W.heap.size + 1 + 1 := by rw [hW0, World.size_alloc, hsa]
  have hka : Blk Wa W.heap.size 28 #[.slice A1 m1 c1, .slice A2 m2 c2, .slice A3 m3 c3, .slice A4 p.main.length c4] := by rw [hWa]; exact Blk.new W _ _
  have HK1 : Hid (Blk W0 W.heap.size 28 #[.slice A1 m1 c1, .slice A2 m2 c2, .slice A3 m3 c3, .slice A4 p.main.length c4]) := Lib.hid (hka.below hbb hka.lt)
  have HK2 : Hid (Blk W0 (W.heap.size + 1) 38 #[.slice none 0 0, .slice none 0 0, .slice none 0 0, .slice none 0 0]) := Lib.hid (by rw [hW0, ← hsa]; exact Blk.new Wa _ _)
  have HB0 := Lib.hid (thru hba hbb)
  have HS0 := Lib.hid hsb
  have HW0 : Hid (W0 = (W.alloc (.cells #[.slice A1 m1 c1, .slice A2 m2 c2, .slice A3 m3 c3, .slice A4 p.main.length c4] 28)).alloc (.cells #[.slice none 0 0, .slice none 0 0, .slice none 0 0, .slice none 0 0] 38)) := Lib.hid (by rw [← hWa]; exact hW0)
  clear hWa hW0 hba hbb hsa hka hsb
  have HC : Hid (Calls Tryz.prog 23 #[.slice A4 p.main.length c4] W0 (RetSt n p.main W0)) := Lib.hid (stmts_any n p.main _ _ W0 (HM4.out.below HB0.out (fun b h => h)) (lo_up (fun b h => h) HB0.out.size))
  have y0 := HK1.out.cell 3
  simp at y0
  go_enter Tryz.func9, Tryz.ntmps9
  go_upto_region 1 with fail
  rw [← HW0.out]
  go_upto_region 2 with (first
    | (go_at_call 23; have HX := HC.out; (with_reducible refine HX.mono ?_); clear HX; rintro e w1 ⟨yM, rfl, hyM, hb⟩; obtain ⟨M4, d4, rfl, -, -⟩ := hyM.slice; have HYM := Lib.hid hyM; have E1 := Lib.hid hb; clear hb hyM y0))
  have HP0 := Lib.hid (pi_new W w1 n (.slice M4 p.main.length d4))
  obtain ⟨W2, hW2⟩ : ∃ W2, W2 = w1.alloc (.cells #[.slice none 0 0, .slice none 0 0, .slice none 0 0, .slice M4 p.main.length d4] 38) := ⟨_, rfl⟩
  rw [← hW2] at HP0
  rw [← hW2]
  clear hW2 HW0
  have HG1 : Hid (∀ w', Below w1.heap.size w1 w' → Blk w' W.heap.size 28 #[.slice A1 m1 c1, .slice A2 m2 c2, .slice A3 m3 c3, .slice A4 p.main.length c4]) := Lib.hid fun w' hb => (HK1.out.below (thru E1.out hb) HK1.out.lt)
  have HG2 : Hid (∀ w', Below w1.heap.size w1 w' → Blk w' (W.heap.size + 1) 38 #[.slice none 0 0, .slice none 0 0, .slice none 0 0, .slice none 0 0]) := Lib.hid fun w' hb => (HK2.out.below (thru E1.out hb) HK2.out.lt)
  have HBW : Hid (∀ w', Below w1.heap.size w1 w' → Below W.heap.size W w') := Lib.hid fun w' hb => thru HB0.out (thru E1.out hb)
  have y0 := (HG1.out _ HP0.out.low).cell 0
  simp at y0
  go_wp2_with fail
  go_loopw [17] (fun i wr => ∃ (k : Nat) (v : Value), i = .int .i64 (k : Int) ∧ k ≤ m1 ∧ PI W w1 n (.slice M4 p.main.length d4) v (.slice none 0 0) (.slice none 0 0) v (.slice none 0 0) (.slice none 0 0) (p.enums.take k) [] [] wr) (fun i _ => m1 - (RowKit.intOf i).toNat)
  case atStart => exact ⟨0, .slice none 0 0, rfl, Nat.zero_le _, by rw [List.take_zero]; exact HP0.out⟩
  case round =>
    obtain ⟨k, v, rfl, hk, hpi⟩ := hrel
    have HPI := Lib.hid hpi
    clear hpi HP0 y0
    by_cases hlt : k < m1
    · obtain ⟨x, hx⟩ : ∃ x, p.enums[k]? = some x := ⟨p.enums[k]'(by rw [HN1.out]; exact hlt), List.getElem?_eq_getElem _⟩
      obtain ⟨b, off, L, rfl, hbB, hcc, hstr⟩ := HAt1.out k x hx
      obtain ⟨x0, x1⟩ := keep2 hcc ((HBW.out _ HPI.out.low).block b hbB)
      obtain ⟨AL, cL, rfl, -, -⟩ := hstr.slice
      have HX := Lib.hid hx
      have HTl : Hid ((p.enums.take k).length = k) := Lib.hid (by rw [List.length_take, HN1.out]; omega)
      have HStr := Lib.hid hstr
      obtain ⟨W3, hW3⟩ : ∃ W3, W3 = wr.alloc (.cells #[.string x.1, .slice AL x.2.length cL] 67) := ⟨_, rfl⟩
      have B3 : Hid (Below wr.heap.size wr W3) := Lib.hid (by rw [hW3]; exact (Below.refl _ _).alloc (Nat.le_refl _) _)
      have K3 : Hid (Blk W3 wr.heap.size 67 #[.string x.1, .slice AL x.2.length cL]) := Lib.hid (by rw [hW3]; exact Blk.new wr _ _)
      have X3 := Lib.hid (HPI.out.below B3.out)
      have X4 := Lib.hid (X3.out.below ((Below.refl _ _).alloc (Nat.le_refl _) (.cells #[.string x.1, .slice AL x.2.length cL] 68)))
      have N4 := Lib.hid (Blk.new W3 68 #[.string x.1, .slice AL x.2.length cL])
      obtain ⟨css, hcs1, hcs2, hcs3⟩ := X4.out.en
      rw [HTl.out] at hcs2
      have C1 := Lib.hid hcs1
      have C2 := Lib.hid hcs2
      have C3 := Lib.hid hcs3
      have HW3 := Lib.hid hW3
      clear hcs1 hcs2 hcs3 hcc hstr hx hW3
      have o0 := X3.out.box.cell 0
      have t0 := K3.out.cell 0
      have t1 := K3.out.cell 1
      simp at o0 t0 t1
      go_upto_region 5 with fail
      rw [← HW3.out]
      clear x0 x1
      go_wp2_with (at_builtin; refine wpList_append_at rfl _ _ 33 rfl (w1.heap.size + 1) 68 i0 (.agg #[.string ⟨#[]⟩, .slice none 0 0]) 2 40 Tryz.underlying33 HI0.out.1 HI0.out.2.1 HI0.out.2.2.1 HI0.out.2.2.2 rfl (by decide) v k css.flatten rfl C2.out ⟨W3.heap.size, 0, none⟩ 1 1 [.string x.1, .slice AL x.2.length cL] rfl rfl (news_two N4.out) (one_two _ _ _ _) (by unfold maxLen; omega) (by have := HLim1.out; omega) X4.out.base ?_; intro v5 w5 ho hg hv; obtain ⟨A5, c5, rfl⟩ := row_slice ho; have X5 := Lib.hid (X4.out.moreE HX.out C1.out C3.out C2.out ho hg hv ⟨rfl, _, rfl, HStr.out⟩); have s0 := X5.out.box.cell 0; have s1 := X5.out.box.frozen 0; have s2 := X5.out.box.lt; simp at s0; clear ho hg hv o0 t0 t1)
      go_roundw
      case rel => exact ⟨k + 1, .slice A5 (k + 1) c5, by go_num, hlt, X5.out.putE⟩
      case measure => simp [RowKit.intOf]; omega
    · have he : k = m1 := by omega
      subst he
      have hT : p.enums.take k = p.enums := by rw [← HN1.out, List.take_length]
      rw [hT] at HPI
      clear hT
      have y0 := (HG1.out _ HPI.out.low).cell 1
      simp at y0
      go_wp2_with fail
      go_loopw [35] (fun i wr => ∃ (k2 : Nat) (u : Value), i = .int .i64 (k2 : Int) ∧ k2 ≤ m2 ∧ PI W w1 n (.slice M4 p.main.length d4) v u (.slice none 0 0) v u (.slice none 0 0) p.enums (p.vars.take k2) [] wr) (fun i _ => m2 - (RowKit.intOf i).toNat)
      case atStart => exact ⟨0, .slice none 0 0, rfl, Nat.zero_le _, by rw [List.take_zero]; exact HPI.out⟩
      case round =>
        obtain ⟨k2, u, rfl, hk2, hpi⟩ := hrel
        clear HPI y0
        have HPI := Lib.hid hpi
        clear hpi
        by_cases hlt2 : k2 < m2
        · obtain ⟨x, hx⟩ : ∃ x, p.vars[k2]? = some x := ⟨p.vars[k2]'(by rw [HN2.out]; exact hlt2), List.getElem?_eq_getElem _⟩
          obtain ⟨b, off, rfl, hbB, hcc, hin⟩ := HAt2.out k2 x hx
          obtain ⟨x0, x1, x2⟩ := keep3 hcc ((HBW.out _ HPI.out.low).block b hbB)
          have HX := Lib.hid hx
          have HTl : Hid ((p.vars.take k2).length = k2) := Lib.hid (by rw [List.length_take, HN2.out]; omega)
          have HIn := Lib.hid hin
          obtain ⟨W3, hW3⟩ : ∃ W3, W3 = wr.alloc (.cells #[.string x.1, .string x.2.1, .int .i64 x.2.2] 70) := ⟨_, rfl⟩
          have B3 : Hid (Below wr.heap.size wr W3) := Lib.hid (by rw [hW3]; exact (Below.refl _ _).alloc (Nat.le_refl _) _)
          have K3 : Hid (Blk W3 wr.heap.size 70 #[.string x.1, .string x.2.1, .int .i64 x.2.2]) := Lib.hid (by rw [hW3]; exact Blk.new wr _ _)
          have X3 := Lib.hid (HPI.out.below B3.out)
          have X4 := Lib.hid (X3.out.below ((Below.refl _ _).alloc (Nat.le_refl _) (.cells #[.string x.1, .string x.2.1, .int .i64 x.2.2] 71)))
          have N4 := Lib.hid (Blk.new W3 71 #[.string x.1, .string x.2.1, .int .i64 x.2.2])
          obtain ⟨css, hcs1, hcs2, hcs3⟩ := X4.out.va
          rw [HTl.out] at hcs2
          have C1 := Lib.hid hcs1
          have C2 := Lib.hid hcs2
          have C3 := Lib.hid hcs3
          have HW3 := Lib.hid hW3
          clear hcs1 hcs2 hcs3 hcc hx hW3 hin
          have o0 := X3.out.box.cell 1
          have t0 := K3.out.cell 0
          have t1 := K3.out.cell 1
          have t2 := K3.out.cell 2
          simp at o0 t0 t1 t2
          go_upto_region 10 with fail
          rw [← HW3.out]
          clear x0 x1 x2
          go_wp2_with (at_builtin; refine wpList_append_at rfl _ _ 34 rfl (w1.heap.size + 1) 71 i1 (.agg #[.string ⟨#[]⟩, .string ⟨#[]⟩, .int .i64 0]) 3 40 Tryz.underlying34 HI1.out.1 HI1.out.2.1 HI1.out.2.2.1 HI1.out.2.2.2 rfl (by decide) u k2 css.flatten rfl C2.out ⟨W3.heap.size, 0, none⟩ 1 1 [.string x.1, .string x.2.1, .int .i64 x.2.2] rfl rfl (news_three N4.out) (one_three _ _ _) (by unfold maxLen; omega) (by have := HLim2.out; omega) X4.out.base ?_; intro v5 w5 ho hg hv; obtain ⟨A5, c5, rfl⟩ := row_slice ho; have X5 := Lib.hid (X4.out.moreV HX.out C1.out C3.out C2.out ho hg hv ⟨rfl, rfl, HIn.out⟩); have s0 := X5.out.box.cell 1; have s1 := X5.out.box.frozen 1; have s2 := X5.out.box.lt; simp at s0; clear ho hg hv o0 t0 t1 t2)
          go_roundw
          case rel => exact ⟨k2 + 1, .slice A5 (k2 + 1) c5, by go_num, hlt2, X5.out.putV⟩
          case measure => simp [RowKit.intOf]; omega
        · have he : k2 = m2 := by omega
          subst he
          have hT : p.vars.take k2 = p.vars := by rw [← HN2.out, List.take_length]
          rw [hT] at HPI
          clear hT
          have y0 := (HG1.out _ HPI.out.low).cell 2
          simp at y0
          go_wp2_with fail
          go_loopw [49] (fun i wr => ∃ (k3 : Nat) (z : Value), i = .int .i64 (k3 : Int) ∧ k3 ≤ m3 ∧ PI W w1 n (.slice M4 p.main.length d4) v u z v u z p.enums p.vars (p.procs.take k3) wr) (fun i _ => m3 - (RowKit.intOf i).toNat)
          case atStart => exact ⟨0, .slice none 0 0, rfl, Nat.zero_le _, by rw [List.take_zero]; exact HPI.out⟩
          case round =>
            obtain ⟨k3, z, rfl, hk3, hpi⟩ := hrel
            clear HPI y0
            have HPI := Lib.hid hpi
            clear hpi
            by_cases hlt3 : k3 < m3
            · obtain ⟨x, hx⟩ : ∃ x, p.procs[k3]? = some x := ⟨p.procs[k3]'(by rw [HN3.out]; exact hlt3), List.getElem?_eq_getElem _⟩
              obtain ⟨b, off, L, rfl, hbB, hcc, hstr⟩ := HAt3.out k3 x hx
              obtain ⟨x0, x1⟩ := keep2 hcc ((HBW.out _ HPI.out.low).block b hbB)
              obtain ⟨AL, cL, rfl, -, -⟩ := hstr.slice
              have HX := Lib.hid hx
              have HTl : Hid ((p.procs.take k3).length = k3) := Lib.hid (by rw [List.length_take, HN3.out]; omega)
              obtain ⟨W1, hW1⟩ : ∃ W1, W1 = wr.alloc (.cells #[.string x.1, .slice AL x.2.length cL] 73) := ⟨_, rfl⟩
              have HB1 : Hid (Below wr.heap.size wr W1) := Lib.hid (by rw [hW1]; exact (Below.refl _ _).alloc (Nat.le_refl _) _)
              have KB1 : Hid (Blk W1 wr.heap.size 73 #[.string x.1, .slice AL x.2.length cL]) := Lib.hid (by rw [hW1]; exact Blk.new wr _ _)
              have XW1 := Lib.hid (HPI.out.below HB1.out)
              have B1 : Hid (Below W1.heap.size W1 W1.drew) := Lib.hid (Below.refl _ _).drew
              have HVl := Lib.hid (fun g e => (HPI.out.pr.lt g e).2)
              have HGt : Hid (w1.heap.size < wr.heap.size) := Lib.hid HPI.out.base
              have HCx : Hid (∀ w2, Below W1.heap.size W1 w2 → Calls Tryz.prog 23 #[.slice AL x.2.length cL] w2 (RetSt n x.2 w2)) := Lib.hid fun w2 hb2 => by
                have q := thru (thru (HBW.out _ HPI.out.low) HB1.out) hb2
                exact stmts_any n x.2 _ _ w2 (hstr.below q (fun b h => h)) (lo_up (fun b h => h) q.size)
              have HS2 : Hid (∀ w', Blk w' wr.heap.size 73 #[.string x.1, .slice AL x.2.length cL] → (w'.cell? ⟨wr.heap.size, 0, none⟩ = some (.string x.1) ∧ w'.cell? ⟨wr.heap.size, 1, none⟩ = some (.slice AL x.2.length cL))) := Lib.hid fun w' h => ⟨h.cell 0, h.cell 1⟩
              have K1 := Lib.hid (HS2.out _ (KB1.out.below B1.out KB1.out.lt))
              have HW1 := Lib.hid hW1
              clear hcc hstr hx hW1
              go_upto_region 15 with fail
              rw [← HW1.out]
              clear x0 x1
              refine wp_region_held_drew (S := fun w' => w'.cell? ⟨wr.heap.size, 0, none⟩ = some (.string x.1) ∧ w'.cell? ⟨wr.heap.size, 1, none⟩ = some (.slice AL x.2.length cL)) (by kernel_rfl) K1.out (fun k0 => ?_)
              refine wpAnyH_take (i := 0) (oi := ⟨some 53, _, _, _, _, _⟩) (v := ?_) rfl (by kernel_rfl) (by kernel_rfl) (by kernel_rfl) (fun _ _ _ h => h) (Or.inl ⟨by rfl, ?_⟩) k0 ?_
              rotate_left
              · intro w hSw
                try dsimp only at hSw
                go_simp
                try with_reducible rfl
              try simp only [Act.put, List.setIfInBounds_toArray, List.set_cons_zero, List.set_cons_succ]
              refine wpAnyH_take (i := 2) (oi := ⟨some 55, _, _, _, _, _⟩) (v := ?_) rfl (by kernel_rfl) (by kernel_rfl) (by kernel_rfl) (fun _ _ _ h => h) (Or.inl ⟨by rfl, ?_⟩) k0 ?_
              rotate_left
              · intro w hSw
                try dsimp only at hSw
                go_simp
                try with_reducible rfl
              try simp only [Act.put, List.setIfInBounds_toArray, List.set_cons_zero, List.set_cons_succ]
              refine wpAnyH_take (i := 3) (oi := ⟨some 56, _, _, _, _, _⟩) (v := ?_) rfl (by kernel_rfl) (by kernel_rfl) (by kernel_rfl) (fun _ _ _ h => h) (Or.inl ⟨by rfl, ?_⟩) k0 ?_
              rotate_left
              · intro w hSw
                try dsimp only at hSw
                go_simp
                try with_reducible rfl
              try simp only [Act.put, List.setIfInBounds_toArray, List.set_cons_zero, List.set_cons_succ]
              refine wpAnyH_take (i := 4) (oi := ⟨some 57, _, _, _, _, _⟩) (v := ?_) rfl (by kernel_rfl) (by kernel_rfl) (by kernel_rfl) (fun _ _ _ h => h) (Or.inl ⟨by rfl, ?_⟩) k0 ?_
              rotate_left
              · intro w hSw
                try dsimp only at hSw
                go_simp
                try with_reducible rfl
              try simp only [Act.put, List.setIfInBounds_toArray, List.set_cons_zero, List.set_cons_succ]
              refine wpAnyH_take (i := 5) (oi := ⟨some 58, _, _, _, _, _⟩) (v := ?_) rfl (by kernel_rfl) (by kernel_rfl) (by kernel_rfl) (fun _ _ _ h => h) (Or.inl ⟨by rfl, ?_⟩) k0 ?_
              rotate_left
              · intro w hSw
                try dsimp only at hSw
                go_simp
                try with_reducible rfl
              try simp only [Act.put, List.setIfInBounds_toArray, List.set_cons_zero, List.set_cons_succ]
              refine wpAnyH_ready (rs := [1, 6]) (by kernel_rfl) (by simp) ?_
              refine (AllReadyH.cons (o := ⟨some 54, _, _, _, _, _⟩) rfl (fun K' hK => ?_) (AllReadyH.cons (o := ⟨some 59, _, _, _, _, _⟩) rfl (fun K' hK => ?_) AllReadyH.nil))
              · have tf : W1.cell? ⟨w1.heap.size, 2, none⟩ = some z := XW1.out.box.cell 2
                go_simp
                refine hK.out _ _ K1.out (fun h1 => ?_)
                clear hK K'
                try simp only [Act.put, List.setIfInBounds_toArray, List.set_cons_zero, List.set_cons_succ]
                clear tf
                refine wpAnyH_ready (rs := [6]) (by kernel_rfl) (by simp) ?_
                refine (AllReadyH.cons (o := ⟨some 59, _, _, _, _, _⟩) rfl (fun K' hK => ?_) AllReadyH.nil)
                go_simp
                refine (HCx.out _ B1.out).mono ?_
                rintro e w2 ⟨L2, rfl, hL2, hb⟩
                have B2 : Hid (Below W1.heap.size W1 w2) := Lib.hid (thru B1.out hb)
                have Xw2 := Lib.hid (XW1.out.below B2.out)
                have KB2 := Lib.hid (KB1.out.below B2.out KB1.out.lt)
                have K2 := Lib.hid (HS2.out _ KB2.out)
                have HL2 := Lib.hid hL2
                obtain ⟨A2, c2, rfl, -, -⟩ := hL2.slice
                clear hb hL2
                go_wp2_with fail
                refine hK.out _ _ K2.out (fun h2 => ?_)
                clear hK K'
                try simp only [Act.put, List.setIfInBounds_toArray, List.set_cons_zero, List.set_cons_succ]
                refine wpAnyH_take (i := 7) (oi := ⟨some 60, _, _, _, _, _⟩) (v := ?_) rfl (by kernel_rfl) (by kernel_rfl) (by kernel_rfl) (fun _ _ _ h => h) (Or.inl ⟨by rfl, ?_⟩) h2 ?_
                rotate_left
                · intro w hSw
                  try dsimp only at hSw
                  go_simp
                  try with_reducible rfl
                try simp only [Act.put, List.setIfInBounds_toArray, List.set_cons_zero, List.set_cons_succ]
                refine wpAnyH_ready (rs := [8]) (by kernel_rfl) (by simp) ?_
                refine (AllReadyH.cons (o := ⟨some 61, _, _, _, _, _⟩) rfl (fun K' hK => ?_) AllReadyH.nil)
                have B3 : Hid (Below w2.heap.size w2 (w2.alloc (.cells #[.string x.1, .slice A2 x.2.length c2] 63))) := Lib.hid ((Below.refl _ _).alloc (Nat.le_refl _) _)
                have X3 := Lib.hid (Xw2.out.below B3.out)
                have KB3 := Lib.hid (KB2.out.below B3.out KB2.out.lt)
                have K3 := Lib.hid (HS2.out _ KB3.out)
                have N3 := Lib.hid (Blk.new w2 63 #[.string x.1, .slice A2 x.2.length c2])
                go_simp
                refine hK.out _ _ K3.out (fun h8 => ?_)
                clear hK K'
                try simp only [Act.put, List.setIfInBounds_toArray, List.set_cons_zero, List.set_cons_succ]
                refine wpAnyH_ready (rs := [9]) (by kernel_rfl) (by simp) ?_
                refine (AllReadyH.cons (o := ⟨some 62, _, _, _, _, _⟩) rfl (fun K' hK => ?_) AllReadyH.nil)
                obtain ⟨css, hcs1, hcs2, hcs3⟩ := X3.out.pr
                rw [HTl.out] at hcs2
                rw [if_pos (by rfl)]
                refine wp_append_at (.tmp 54) (.tmp 61) 35 rfl (w1.heap.size + 1) 63 i2 (.agg #[.string ⟨#[]⟩, .slice none 0 0]) 2 40 Tryz.underlying35 HI2.out.1 HI2.out.2.1 HI2.out.2.2.1 HI2.out.2.2.2 rfl (by decide) z k3 css.flatten rfl hcs2 ⟨w2.heap.size, 0, none⟩ 1 1 [.string x.1, .slice A2 x.2.length c2] rfl rfl (news_two N3.out) (one_two _ _ _ _) (by unfold maxLen; omega) (by have := HLim3.out; omega) X3.out.base ?_
                intro v5 w5 ho hg hv
                have X5 := Lib.hid (X3.out.moreP HX.out hcs1 hcs3 hcs2 ho hg hv ⟨rfl, _, rfl, (HL2.out.below B3.out (fun b q => q.2)).wide (fun b q => ⟨Nat.le_trans XW1.out.base q.1, Nat.lt_of_lt_of_le q.2 B3.out.size, fun e => absurd (XW1.out.pr.lt b e).2 (Nat.not_lt.2 q.1)⟩)⟩)
                have KB5 : Hid (Blk w5 wr.heap.size 73 #[.string x.1, .slice AL x.2.length cL]) := Lib.hid (KB3.out.grown hg (fun e => absurd (HVl.out _ e.symm) (Nat.lt_irrefl _)))
                have K5 := Lib.hid (HS2.out _ KB5.out)
                obtain ⟨A5, c5, rfl⟩ := row_slice ho
                clear ho hg hv hcs1 hcs2 hcs3
                refine hK.out _ _ K5.out (fun h9 => ?_)
                clear hK K'
                try simp only [Act.put, List.setIfInBounds_toArray, List.set_cons_zero, List.set_cons_succ]
                refine wpAnyH_take (i := 10) (oi := ⟨some 63, _, _, _, _, _⟩) (v := ?_) rfl (by kernel_rfl) (by kernel_rfl) (by kernel_rfl) (fun _ _ _ h => h) (Or.inl ⟨by rfl, ?_⟩) h9 ?_
                rotate_left
                · intro w hSw
                  try dsimp only at hSw
                  go_simp
                  try with_reducible rfl
                try simp only [Act.put, List.setIfInBounds_toArray, List.set_cons_zero, List.set_cons_succ]
                refine wpAnyH_ready (rs := [11]) (by kernel_rfl) (by simp) ?_
                refine (AllReadyH.cons (o := ⟨none, _, _, _, _, _⟩) rfl (fun K' hK => ?_) AllReadyH.nil)
                have t0 := X5.out.box.cell 2
                have t1 := X5.out.box.frozen 2
                have t2 := X5.out.box.lt
                simp at t0
                have K6 := Lib.hid (HS2.out _ (KB5.out.far (p := ⟨w1.heap.size, 2, none⟩) (Nat.ne_of_gt HGt.out) (.slice A5 (k3 + 1) c5)))
                go_simp
                refine hK.out _ _ K6.out (fun h10 => ?_)
                clear hK K'
                try simp only [Act.put, List.setIfInBounds_toArray, List.set_cons_zero, List.set_cons_succ]
                clear t0 t1 t2
                refine wpAnyH_done (by kernel_rfl) ?_ _
                have X6 := Lib.hid (X5.out.putP)
                obtain ⟨w6, hw6⟩ : ∃ x, w5.setCell ⟨w1.heap.size, 2, none⟩ (.slice A5 (k3 + 1) c5) = x := ⟨_, rfl⟩
                rw [hw6] at X6 ⊢
                clear hw6
                go_wp2_with fail
                go_roundw
                case rel => exact ⟨k3 + 1, .slice A5 (k3 + 1) c5, by go_num, hlt3, X6.out⟩
                case measure => simp [RowKit.intOf]; omega
              · go_simp
                refine (HCx.out _ B1.out).mono ?_
                rintro e w2 ⟨L2, rfl, hL2, hb⟩
                have B2 : Hid (Below W1.heap.size W1 w2) := Lib.hid (thru B1.out hb)
                have Xw2 := Lib.hid (XW1.out.below B2.out)
                have KB2 := Lib.hid (KB1.out.below B2.out KB1.out.lt)
                have K2 := Lib.hid (HS2.out _ KB2.out)
                have HL2 := Lib.hid hL2
                obtain ⟨A2, c2, rfl, -, -⟩ := hL2.slice
                clear hb hL2
                go_wp2_with fail
                refine hK.out _ _ K2.out (fun h2 => ?_)
                clear hK K'
                try simp only [Act.put, List.setIfInBounds_toArray, List.set_cons_zero, List.set_cons_succ]
                refine wpAnyH_take (i := 7) (oi := ⟨some 60, _, _, _, _, _⟩) (v := ?_) rfl (by kernel_rfl) (by kernel_rfl) (by kernel_rfl) (fun _ _ _ h => h) (Or.inl ⟨by rfl, ?_⟩) h2 ?_
                rotate_left
                · intro w hSw
                  try dsimp only at hSw
                  go_simp
                  try with_reducible rfl
                try simp only [Act.put, List.setIfInBounds_toArray, List.set_cons_zero, List.set_cons_succ]
                refine wpAnyH_ready (rs := [1, 8]) (by kernel_rfl) (by simp) ?_
                refine (AllReadyH.cons (o := ⟨some 54, _, _, _, _, _⟩) rfl (fun K' hK => ?_) (AllReadyH.cons (o := ⟨some 61, _, _, _, _, _⟩) rfl (fun K' hK => ?_) AllReadyH.nil))
                · have tf : w2.cell? ⟨w1.heap.size, 2, none⟩ = some z := Xw2.out.box.cell 2
                  go_simp
                  refine hK.out _ _ K2.out (fun h3 => ?_)
                  clear hK K'
                  try simp only [Act.put, List.setIfInBounds_toArray, List.set_cons_zero, List.set_cons_succ]
                  clear tf
                  refine wpAnyH_ready (rs := [8]) (by kernel_rfl) (by simp) ?_
                  refine (AllReadyH.cons (o := ⟨some 61, _, _, _, _, _⟩) rfl (fun K' hK => ?_) AllReadyH.nil)
                  have B3 : Hid (Below w2.heap.size w2 (w2.alloc (.cells #[.string x.1, .slice A2 x.2.length c2] 63))) := Lib.hid ((Below.refl _ _).alloc (Nat.le_refl _) _)
                  have X3 := Lib.hid (Xw2.out.below B3.out)
                  have KB3 := Lib.hid (KB2.out.below B3.out KB2.out.lt)
                  have K3 := Lib.hid (HS2.out _ KB3.out)
                  have N3 := Lib.hid (Blk.new w2 63 #[.string x.1, .slice A2 x.2.length c2])
                  go_simp
                  refine hK.out _ _ K3.out (fun h4 => ?_)
                  clear hK K'
                  try simp only [Act.put, List.setIfInBounds_toArray, List.set_cons_zero, List.set_cons_succ]
                  refine wpAnyH_ready (rs := [9]) (by kernel_rfl) (by simp) ?_
                  refine (AllReadyH.cons (o := ⟨some 62, _, _, _, _, _⟩) rfl (fun K' hK => ?_) AllReadyH.nil)
                  obtain ⟨css, hcs1, hcs2, hcs3⟩ := X3.out.pr
                  rw [HTl.out] at hcs2
                  rw [if_pos (by rfl)]
                  refine wp_append_at (.tmp 54) (.tmp 61) 35 rfl (w1.heap.size + 1) 63 i2 (.agg #[.string ⟨#[]⟩, .slice none 0 0]) 2 40 Tryz.underlying35 HI2.out.1 HI2.out.2.1 HI2.out.2.2.1 HI2.out.2.2.2 rfl (by decide) z k3 css.flatten rfl hcs2 ⟨w2.heap.size, 0, none⟩ 1 1 [.string x.1, .slice A2 x.2.length c2] rfl rfl (news_two N3.out) (one_two _ _ _ _) (by unfold maxLen; omega) (by have := HLim3.out; omega) X3.out.base ?_
                  intro v5 w5 ho hg hv
                  have X5 := Lib.hid (X3.out.moreP HX.out hcs1 hcs3 hcs2 ho hg hv ⟨rfl, _, rfl, (HL2.out.below B3.out (fun b q => q.2)).wide (fun b q => ⟨Nat.le_trans XW1.out.base q.1, Nat.lt_of_lt_of_le q.2 B3.out.size, fun e => absurd (XW1.out.pr.lt b e).2 (Nat.not_lt.2 q.1)⟩)⟩)
                  have KB5 : Hid (Blk w5 wr.heap.size 73 #[.string x.1, .slice AL x.2.length cL]) := Lib.hid (KB3.out.grown hg (fun e => absurd (HVl.out _ e.symm) (Nat.lt_irrefl _)))
                  have K5 := Lib.hid (HS2.out _ KB5.out)
                  obtain ⟨A5, c5, rfl⟩ := row_slice ho
                  clear ho hg hv hcs1 hcs2 hcs3
                  refine hK.out _ _ K5.out (fun h9 => ?_)
                  clear hK K'
                  try simp only [Act.put, List.setIfInBounds_toArray, List.set_cons_zero, List.set_cons_succ]
                  refine wpAnyH_take (i := 10) (oi := ⟨some 63, _, _, _, _, _⟩) (v := ?_) rfl (by kernel_rfl) (by kernel_rfl) (by kernel_rfl) (fun _ _ _ h => h) (Or.inl ⟨by rfl, ?_⟩) h9 ?_
                  rotate_left
                  · intro w hSw
                    try dsimp only at hSw
                    go_simp
                    try with_reducible rfl
                  try simp only [Act.put, List.setIfInBounds_toArray, List.set_cons_zero, List.set_cons_succ]
                  refine wpAnyH_ready (rs := [11]) (by kernel_rfl) (by simp) ?_
                  refine (AllReadyH.cons (o := ⟨none, _, _, _, _, _⟩) rfl (fun K' hK => ?_) AllReadyH.nil)
                  have t0 := X5.out.box.cell 2
                  have t1 := X5.out.box.frozen 2
                  have t2 := X5.out.box.lt
                  simp at t0
                  have K6 := Lib.hid (HS2.out _ (KB5.out.far (p := ⟨w1.heap.size, 2, none⟩) (Nat.ne_of_gt HGt.out) (.slice A5 (k3 + 1) c5)))
                  go_simp
                  refine hK.out _ _ K6.out (fun h10 => ?_)
                  clear hK K'
                  try simp only [Act.put, List.setIfInBounds_toArray, List.set_cons_zero, List.set_cons_succ]
                  clear t0 t1 t2
                  refine wpAnyH_done (by kernel_rfl) ?_ _
                  have X6 := Lib.hid (X5.out.putP)
                  obtain ⟨w6, hw6⟩ : ∃ x, w5.setCell ⟨w1.heap.size, 2, none⟩ (.slice A5 (k3 + 1) c5) = x := ⟨_, rfl⟩
                  rw [hw6] at X6 ⊢
                  clear hw6
                  go_wp2_with fail
                  go_roundw
                  case rel => exact ⟨k3 + 1, .slice A5 (k3 + 1) c5, by go_num, hlt3, X6.out⟩
                  case measure => simp [RowKit.intOf]; omega
                · have B3 : Hid (Below w2.heap.size w2 (w2.alloc (.cells #[.string x.1, .slice A2 x.2.length c2] 63))) := Lib.hid ((Below.refl _ _).alloc (Nat.le_refl _) _)
                  have X3 := Lib.hid (Xw2.out.below B3.out)
                  have KB3 := Lib.hid (KB2.out.below B3.out KB2.out.lt)
                  have K3 := Lib.hid (HS2.out _ KB3.out)
                  have N3 := Lib.hid (Blk.new w2 63 #[.string x.1, .slice A2 x.2.length c2])
                  go_simp
                  refine hK.out _ _ K3.out (fun h3 => ?_)
                  clear hK K'
                  try simp only [Act.put, List.setIfInBounds_toArray, List.set_cons_zero, List.set_cons_succ]
                  refine wpAnyH_ready (rs := [1]) (by kernel_rfl) (by simp) ?_
                  refine (AllReadyH.cons (o := ⟨some 54, _, _, _, _, _⟩) rfl (fun K' hK => ?_) AllReadyH.nil)
                  have tf : (w2.alloc (.cells #[.string x.1, .slice A2 x.2.length c2] 63)).cell? ⟨w1.heap.size, 2, none⟩ = some z := X3.out.box.cell 2
                  go_simp
                  refine hK.out _ _ K3.out (fun h4 => ?_)
                  clear hK K'
                  try simp only [Act.put, List.setIfInBounds_toArray, List.set_cons_zero, List.set_cons_succ]
                  clear tf
                  refine wpAnyH_ready (rs := [9]) (by kernel_rfl) (by simp) ?_
                  refine (AllReadyH.cons (o := ⟨some 62, _, _, _, _, _⟩) rfl (fun K' hK => ?_) AllReadyH.nil)
                  obtain ⟨css, hcs1, hcs2, hcs3⟩ := X3.out.pr
                  rw [HTl.out] at hcs2
                  rw [if_pos (by rfl)]
                  refine wp_append_at (.tmp 54) (.tmp 61) 35 rfl (w1.heap.size + 1) 63 i2 (.agg #[.string ⟨#[]⟩, .slice none 0 0]) 2 40 Tryz.underlying35 HI2.out.1 HI2.out.2.1 HI2.out.2.2.1 HI2.out.2.2.2 rfl (by decide) z k3 css.flatten rfl hcs2 ⟨w2.heap.size, 0, none⟩ 1 1 [.string x.1, .slice A2 x.2.length c2] rfl rfl (news_two N3.out) (one_two _ _ _ _) (by unfold maxLen; omega) (by have := HLim3.out; omega) X3.out.base ?_
                  intro v5 w5 ho hg hv
                  have X5 := Lib.hid (X3.out.moreP HX.out hcs1 hcs3 hcs2 ho hg hv ⟨rfl, _, rfl, (HL2.out.below B3.out (fun b q => q.2)).wide (fun b q => ⟨Nat.le_trans XW1.out.base q.1, Nat.lt_of_lt_of_le q.2 B3.out.size, fun e => absurd (XW1.out.pr.lt b e).2 (Nat.not_lt.2 q.1)⟩)⟩)
                  have KB5 : Hid (Blk w5 wr.heap.size 73 #[.string x.1, .slice AL x.2.length cL]) := Lib.hid (KB3.out.grown hg (fun e => absurd (HVl.out _ e.symm) (Nat.lt_irrefl _)))
                  have K5 := Lib.hid (HS2.out _ KB5.out)
                  obtain ⟨A5, c5, rfl⟩ := row_slice ho
                  clear ho hg hv hcs1 hcs2 hcs3
                  refine hK.out _ _ K5.out (fun h9 => ?_)
                  clear hK K'
                  try simp only [Act.put, List.setIfInBounds_toArray, List.set_cons_zero, List.set_cons_succ]
                  refine wpAnyH_take (i := 10) (oi := ⟨some 63, _, _, _, _, _⟩) (v := ?_) rfl (by kernel_rfl) (by kernel_rfl) (by kernel_rfl) (fun _ _ _ h => h) (Or.inl ⟨by rfl, ?_⟩) h9 ?_
                  rotate_left
                  · intro w hSw
                    try dsimp only at hSw
                    go_simp
                    try with_reducible rfl
                  try simp only [Act.put, List.setIfInBounds_toArray, List.set_cons_zero, List.set_cons_succ]
                  refine wpAnyH_ready (rs := [11]) (by kernel_rfl) (by simp) ?_
                  refine (AllReadyH.cons (o := ⟨none, _, _, _, _, _⟩) rfl (fun K' hK => ?_) AllReadyH.nil)
                  have t0 := X5.out.box.cell 2
                  have t1 := X5.out.box.frozen 2
                  have t2 := X5.out.box.lt
                  simp at t0
                  have K6 := Lib.hid (HS2.out _ (KB5.out.far (p := ⟨w1.heap.size, 2, none⟩) (Nat.ne_of_gt HGt.out) (.slice A5 (k3 + 1) c5)))
                  go_simp
                  refine hK.out _ _ K6.out (fun h10 => ?_)
                  clear hK K'
                  try simp only [Act.put, List.setIfInBounds_toArray, List.set_cons_zero, List.set_cons_succ]
                  clear t0 t1 t2
                  refine wpAnyH_done (by kernel_rfl) ?_ _
                  have X6 := Lib.hid (X5.out.putP)
                  obtain ⟨w6, hw6⟩ : ∃ x, w5.setCell ⟨w1.heap.size, 2, none⟩ (.slice A5 (k3 + 1) c5) = x := ⟨_, rfl⟩
                  rw [hw6] at X6 ⊢
                  clear hw6
                  go_wp2_with fail
                  go_roundw
                  case rel => exact ⟨k3 + 1, .slice A5 (k3 + 1) c5, by go_num, hlt3, X6.out⟩
                  case measure => simp [RowKit.intOf]; omega
            · have he : k3 = m3 := by omega
              subst he
              have hT : p.procs.take k3 = p.procs := by rw [← HN3.out, List.take_length]
              rw [hT] at HPI
              clear hT
              have b2 := HG2.out _ HPI.out.low
              obtain ⟨A7, c7, rfl⟩ : ∃ A c, v = .slice A p.enums.length c := by
                obtain ⟨A, c, e, -⟩ := HPI.out.en.row
                exact ⟨_, _, e⟩
              obtain ⟨A8, c8, rfl⟩ : ∃ A c, u = .slice A p.vars.length c := by
                obtain ⟨A, c, e, -⟩ := HPI.out.va.row
                exact ⟨_, _, e⟩
              obtain ⟨A9, c9, rfl⟩ : ∃ A c, z = .slice A p.procs.length c := by
                obtain ⟨A, c, e, -⟩ := HPI.out.pr.row
                exact ⟨_, _, e⟩
              have HE := Lib.hid (own_en (g := W.heap.size + 1) HPI.out.en (HBW.out _ HPI.out.low) (by rw [HN1.out]; exact HLim1.out) (Nat.le_succ _) (Nat.lt_succ_of_lt (by have := HS0.out; have := E1.out.size; omega)))
              have HV := Lib.hid (own_va (g := W.heap.size + 1) HPI.out.va (by rw [HN2.out]; exact HLim2.out) (Nat.lt_succ_of_lt (by have := HS0.out; have := E1.out.size; omega)))
              have HR := Lib.hid (own_pr (g := W.heap.size + 1) HPI.out.pr (by rw [HN3.out]; exact HLim3.out) (Nat.lt_succ_of_lt (by have := HS0.out; have := E1.out.size; omega)))
              have HMn : Hid (StR (fun b => b < wr.heap.size ∧ b ≠ W.heap.size + 1) n wr p.main (.slice M4 p.main.length d4)) := Lib.hid ((HYM.out.below HPI.out.low (fun b q => q.2)).wide (fun b q => ⟨Nat.lt_of_lt_of_le q.2 HPI.out.low.size, by have := q.1; have := HS0.out; omega⟩))
              have o0 := HPI.out.box.cell 0
              have o1 := HPI.out.box.cell 1
              have o2 := HPI.out.box.cell 2
              have o3 := HPI.out.box.cell 3
              have HK9 := Lib.hid ((((b2.set_ 0 (.slice A7 p.enums.length c7)).set_ 1 (.slice A8 p.vars.length c8)).set_ 2 (.slice A9 p.procs.length c9)).set_ 3 (.slice M4 p.main.length d4))
              have f0 := b2.frozen 0
              have f1 := b2.frozen 1
              have f2 := b2.frozen 2
              have f3 := b2.frozen 3
              have fl := b2.lt
              have r0 := b2.cell 0
              have r1 := b2.cell 1
              have r2 := b2.cell 2
              have r3 := b2.cell 3
              simp at o0 o1 o2 o3 r0 r1 r2 r3
              clear b2 hk hk2 hk3 hlt hlt2 hlt3
              go_wp2_with fail
              have q0 := HK9.out.cell 0
              have q1 := HK9.out.cell 1
              have q2 := HK9.out.cell 2
              have q3 := HK9.out.cell 3
              simp at q0 q1 q2 q3
              have F := four_kept (w := wr) (g := W.heap.size + 1) (.slice A7 p.enums.length c7) (.slice A8 p.vars.length c8) (.slice A9 p.procs.length c9) (.slice M4 p.main.length d4) 0 1 2 3
              refine bodyPost_ret (v := pgV (.slice A7 p.enums.length c7) (.slice A8 p.vars.length c8) (.slice A9 p.procs.length c9) (.slice M4 p.main.length d4)) (by simp [results, Tryz.results9, go_sem, q0, q1, q2, q3]) rfl ⟨_, _, _, _, rfl, ⟨?_, ?_, ?_, ?_⟩, ?_⟩
              · exact (HE.out.kept (fun b q => F.1 b q.2)).wide (fun b q => by rw [F.2]; exact q.1)
              · exact (HV.out.kept (fun b q => F.1 b q.2)).wide (fun b q => by rw [F.2]; exact q.1)
              · exact (HR.out.kept (fun b q => F.1 b q.2)).wide (fun b q => by rw [F.2]; exact q.1)
              · exact (HMn.out.kept (fun b q => F.1 b q.2)).wide (fun b q => by rw [F.2]; exact q.1)
              · exact ((((HBW.out _ HPI.out.low).setCell (p := ⟨W.heap.size + 1, 0, none⟩) (Nat.le_succ _) _).setCell (p := ⟨W.heap.size + 1, 1, none⟩) (Nat.le_succ _) _).setCell (p := ⟨W.heap.size + 1, 2, none⟩) (Nat.le_succ _) _).setCell (p := ⟨W.heap.size + 1, 3, none⟩) (Nat.le_succ _) _
end Go.Proofs.YteaongdlbleehaaGreatDoor.Old
