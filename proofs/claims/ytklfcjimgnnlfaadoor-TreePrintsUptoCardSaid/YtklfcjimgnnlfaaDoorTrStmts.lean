/- The tree layer: the law's Stmts: the program's statements, of the document's. -/
import Derived.Test.YtklfcjimgnnlfaaDoorTrExpr
import Derived.Deep.DeepCutAuto
namespace Go.Proofs.YtklfcjimgnnlfaaDoor
open Go.RowKit
attribute [local go_sem ↓] Go.wp_at_zero Go.wp_at_succ
theorem tinfo : (Tryd.prog.info? 60).map (fun i => (i.zero, i.size, i.bytes)) = some (some (.agg #[.string ⟨#[]⟩, .string ⟨#[]⟩, .slice none 0 0, .slice none 0 0, .slice none 0 0, .int .i64 0]), 6, 112) := by kernel_rfl
theorem news_six {w : World} {g : Nat} {t : TypeId} {a b c d e f : Value} (h : Blk w g t #[a, b, c, d, e, f]) : ∀ (j : Nat) (u : Value), [a, b, c, d, e, f][j]? = some u → w.cell? ((⟨g, 0, none⟩ : Addr).add j) = some u := fun j u hu => by
  rw [Addr.add_lit, Nat.zero_add]
  exact (h.cell j).trans (by simpa using hu)
theorem one_six (a b : ByteArray) (A A1 A2 : Option Addr) (n n1 n2 cap cap1 cap2 : Nat) (d : Int) : ∀ u ∈ [Value.string a, Value.string b, Value.slice A n cap, Value.slice A1 n1 cap1, Value.slice A2 n2 cap2, Value.int .i64 d], u.oneCell' = true := by
  intro u hu
  simp at hu
  rcases hu with rfl | rfl | rfl | rfl | rfl | rfl <;> rfl
/-- While a statement is made: its box, its two rows, the row of its expressions so far. -/
structure SI (W1 : World) (p H : Nat) (op nm : ByteArray) (LA LB : Value) (a : Int) (n m : Nat) (xA xB : List St) (l : List Ex) (v : Value) (w : World) : Prop where
  low : Below W1.heap.size W1 w
  p1 : W1.heap.size ≤ p
  pH : p < H
  hs : H ≤ w.heap.size
  b6 : Blk w p 60 #[.string op, .string nm, v, LA, LB, .int .i64 a]
  rA : StR (fun b => W1.heap.size ≤ b ∧ b < H ∧ b ≠ p) n w xA LA
  rB : StR (fun b => W1.heap.size ≤ b ∧ b < H ∧ b ≠ p) n w xB LB
  own : OwnL (kEx m) 52 5 H w v l
/-- Behind the append, ahead of the store. -/
structure SB (W1 : World) (p H : Nat) (op nm : ByteArray) (LA LB : Value) (a : Int) (n m : Nat) (xA xB : List St) (l : List Ex) (v v' : Value) (w : World) : Prop where
  low : Below W1.heap.size W1 w
  p1 : W1.heap.size ≤ p
  pH : p < H
  hs : H ≤ w.heap.size
  b6 : Blk w p 60 #[.string op, .string nm, v, LA, LB, .int .i64 a]
  rA : StR (fun b => W1.heap.size ≤ b ∧ b < H ∧ b ≠ p) n w xA LA
  rB : StR (fun b => W1.heap.size ≤ b ∧ b < H ∧ b ≠ p) n w xB LB
  own : OwnL (kEx m) 52 5 H w v' l
section
variable {W1 w w' : World} {p H : Nat} {op nm : ByteArray} {LA LB : Value} {a : Int} {n m : Nat} {xA xB : List St} {l : List Ex} {v : Value}
theorem SI.below (h : SI W1 p H op nm LA LB a n m xA xB l v w) (hb : Below w.heap.size w w') : SI W1 p H op nm LA LB a n m xA xB l v w' :=
  ⟨thru h.low hb, h.p1, h.pH, Nat.le_trans h.hs hb.size, h.b6.below hb h.b6.lt, h.rA.below hb (fun _ q => Nat.lt_of_lt_of_le q.2.1 h.hs), h.rB.below hb (fun _ q => Nat.lt_of_lt_of_le q.2.1 h.hs), h.own.below hb⟩
theorem SI.more {y : Ex} {k : Nat} {L : List Ex} {v' : Value} {cs : List Value} {css : List (List Value)} (h : SI W1 p H op nm LA LB a n m xA xB (L.take k) v w) (hx : L[k]? = some y) (h1 : css.length = (L.take k).length)
    (h3 : ∀ (i : Nat) (x : Ex) (cs : List Value), (L.take k)[i]? = some x → css[i]? = some cs → cs.length = 5 ∧ (kEx m).good (fun b => H ≤ b ∧ b < w.heap.size ∧ v.ownBlock ≠ some b) w x cs)
    (h2 : w.ownsRow H 52 5 v k css.flatten)
    (ho : w'.ownsRow H 52 5 v' (k + 1) (css.flatten ++ cs)) (hg : w.grownBy w' v.ownBlock) (hv : v'.ownBlock = v.ownBlock ∨ v'.ownBlock = some w.heap.size)
    (hc : cs.length = 5 ∧ (kEx m).good (fun b => H ≤ b ∧ b < w.heap.size ∧ v.ownBlock ≠ some b) w y cs) :
    SB W1 p H op nm LA LB a n m xA xB (L.take (k + 1)) v v' w' := by
  have hk : k < L.length := (List.getElem?_eq_some_iff.1 hx).1
  have hlen : (L.take k).length = k := by rw [List.length_take]; omega
  have hp1 := h.p1
  have hpH := h.pH
  have hhs := h.hs
  have hne : ∀ b, b < H → some b ≠ v.ownBlock := fun b hb e => by have := (h2.lt b e.symm).1; omega
  refine ⟨Below.grown h.low hg h.low.size (fun g e => by have := (h2.lt g e).1; omega), h.p1, h.pH, Nat.le_trans h.hs hg.size, h.b6.grown hg (hne p h.pH), h.rA.kept (fun b q => hg.block b (Nat.lt_of_lt_of_le q.2.1 h.hs) (hne b q.2.1)), h.rB.kept (fun b q => hg.block b (Nat.lt_of_lt_of_le q.2.1 h.hs) (hne b q.2.1)), ?_⟩
  rw [take_one hx]
  exact OwnL.more h1 h3 (by rw [hlen]; exact ho) hg hv hc.1 hc.2
theorem SB.put {v' : Value} (h : SB W1 p H op nm LA LB a n m xA xB l v v' w) : SI W1 p H op nm LA LB a n m xA xB l v' (w.setCell ⟨p, 2, none⟩ v') :=
  ⟨h.low.setCell (p := ⟨p, 2, none⟩) h.p1 _, h.p1, h.pH, by simpa [World.setCell] using h.hs, h.b6.set_ 2 _, h.rA.kept (fun b q => Below.heap_setCell _ _ _ _ q.2.2), h.rB.kept (fun b q => Below.heap_setCell _ _ _ _ q.2.2), h.own.set_ ⟨p, 2, none⟩ _ h.pH⟩
/-- Behind the six stores into a new box. -/
theorem si_start (hb : Below W1.heap.size W1 w) (h1 : W1.heap.size ≤ p) (h2 : p < w.heap.size) (hz : Blk w p 60 #[.string ⟨#[]⟩, .string ⟨#[]⟩, .slice none 0 0, .slice none 0 0, .slice none 0 0, .int .i64 0])
    (hA : StR (fun b => W1.heap.size ≤ b ∧ b < w.heap.size ∧ b ≠ p) n w xA LA) (hB : StR (fun b => W1.heap.size ≤ b ∧ b < w.heap.size ∧ b ≠ p) n w xB LB) (m : Nat) :
    SI W1 p w.heap.size op nm LA LB a n m xA xB [] (.slice none 0 0) ((((((w.setCell ⟨p, 0, none⟩ (.string op)).setCell ⟨p, 1, none⟩ (.string nm)).setCell ⟨p, 2, none⟩ (.slice none 0 0)).setCell ⟨p, 3, none⟩ LA).setCell ⟨p, 4, none⟩ LB).setCell ⟨p, 5, none⟩ (.int .i64 a)) := by
  have hk : ∀ b, b ≠ p → ((((((w.setCell ⟨p, 0, none⟩ (.string op)).setCell ⟨p, 1, none⟩ (.string nm)).setCell ⟨p, 2, none⟩ (.slice none 0 0)).setCell ⟨p, 3, none⟩ LA).setCell ⟨p, 4, none⟩ LB).setCell ⟨p, 5, none⟩ (.int .i64 a)).heap[b]? = w.heap[b]? := fun b hb => by
    rw [Below.heap_setCell _ _ _ _ hb, Below.heap_setCell _ _ _ _ hb, Below.heap_setCell _ _ _ _ hb, Below.heap_setCell _ _ _ _ hb, Below.heap_setCell _ _ _ _ hb, Below.heap_setCell _ _ _ _ hb]
  exact ⟨(((((hb.setCell (p := ⟨p, 0, none⟩) h1 _).setCell (p := ⟨p, 1, none⟩) h1 _).setCell (p := ⟨p, 2, none⟩) h1 _).setCell (p := ⟨p, 3, none⟩) h1 _).setCell (p := ⟨p, 4, none⟩) h1 _).setCell (p := ⟨p, 5, none⟩) h1 _, h1, h2, by simp [World.setCell],
    (((((hz.set_ 0 _).set_ 1 _).set_ 2 _).set_ 3 _).set_ 4 _).set_ 5 _, hA.kept (fun b q => hk b q.2.2), hB.kept (fun b q => hk b q.2.2), OwnL.nil _ _⟩
end
/-- What Stmts tells. -/
def RetSt (n : Nat) (l : List St) (W : World) (e : Ending) (w' : World) : Prop :=
  ∃ v, e = .returned v ∧ StR (fun b => W.heap.size ≤ b ∧ b < w'.heap.size) n w' l v ∧ Below W.heap.size W w'
def CutS (W1 : World) (n n' : Nat) (x : St) (t6 : Value) (wx : World) : Prop :=
  ∃ pz H Aa2 ca2 Ab2 cb2, t6 = .pointer (some ⟨pz, 0, none⟩) ∧ SI W1 pz H x.op x.nm (.slice Aa2 x.A.length ca2) (.slice Ab2 x.B.length cb2) x.a n n' x.A x.B [] (.slice none 0 0) wx
set_option maxRecDepth 100000 in
set_option maxHeartbeats 12800000 in
theorem stmts_any (n : Nat) : ∀ (l : List St) (v : Value) (P : Nat → Prop) (W : World), StR P n W l v → (∀ b, P b → b < W.heap.size) → Calls Tryd.prog 25 #[v] W (RetSt n l W) := by
  induction n with
  | zero => intro l v P W h; exact h.elim
  | succ n ih =>
    intro l v P W h hP
    obtain ⟨A, cap, rfl, hc, hl, hat⟩ := h
    have HAt := Lib.hid hat
    have HIH := Lib.hid ih
    have HLim := Lib.hid hl
    have hl2 : l.length ≤ 2199023255552 := by omega
    obtain ⟨i0, hi0, hz0, hz1, hz2⟩ := info_parts einfo
    have HI0 := Lib.hid (And.intro hi0 (And.intro hz0 (And.intro hz1 hz2)))
    clear hi0 hz0 hz1 hz2
    obtain ⟨i1, hi0, hz0, hz1, hz2⟩ := info_parts tinfo
    have HI1 := Lib.hid (And.intro hi0 (And.intro hz0 (And.intro hz1 hz2)))
    clear hat ih hl hi0 hz0 hz1 hz2
    obtain ⟨m, hm⟩ : ∃ m, l.length = m := ⟨_, rfl⟩
    have HM := Lib.hid hm
    rw [hm] at hl2 hc HLim
    unfold RetSt
    rw [hm]
    clear hm
    go_enter Tryd.func25, Tryd.ntmps25
    go_wp2
    go_loopw [3, 11] (fun v i wr => ∃ k : Nat, i = .int .i64 (k : Int) ∧ k ≤ m ∧ OwnL (kSt n) 60 6 W.heap.size wr v (l.take k) ∧ Below W.heap.size W wr) (fun _ i _ => m - (RowKit.intOf i).toNat)
    case atStart => exact ⟨0, rfl, Nat.zero_le _, by rw [List.take_zero]; exact OwnL.nil _ _, Below.refl _ _⟩
    case round =>
      obtain ⟨k, rfl, hk, hown, hbw⟩ := hrel
      have HOw := Lib.hid hown
      have HBw := Lib.hid hbw
      clear hown hbw
      by_cases hlt : k < m
      · obtain ⟨x, hx⟩ : ∃ x, l[k]? = some x := ⟨l[k]'(by rw [HM.out]; exact hlt), List.getElem?_eq_getElem _⟩
        obtain ⟨b, off, LE, LA, LB, rfl, hbB, hat, hi2, hE, hA, hB'⟩ := HAt.out k x hx
        obtain ⟨x0, x1, x2, x3, x4, x5⟩ := hat.below HBw.out (hP b hbB)
        obtain ⟨Ae, ce, rfl, hce, hle⟩ := hE.slice
        obtain ⟨Aa, ca, rfl, -, -⟩ := hA.slice
        obtain ⟨Ab, cb, rfl, -, -⟩ := hB'.slice
        obtain ⟨n', rfl⟩ : ∃ n', n = n' + 1 := by
          cases n with
          | zero => exact hE.elim
          | succ n' => exact ⟨n', rfl⟩
        have HX0 := Lib.hid hx
        have HTl0 : Hid ((l.take k).length = k) := Lib.hid (by rw [List.length_take, HM.out]; omega)
        have HIn0 := Lib.hid hi2
        obtain ⟨n, hn⟩ : ∃ n, n = n' + 1 := ⟨_, rfl⟩
        have HN := Lib.hid hn
        rw [← hn] at HAt HIH HOw hE hA hB' ⊢
        clear hn
        obtain ⟨W1, hW1⟩ : ∃ W1, W1 = wr.alloc (.cells #[.string x.op, .string x.nm, .slice Ae x.e.length ce, .slice Aa x.A.length ca, .slice Ab x.B.length cb, .int .i64 x.a] 72) := ⟨_, rfl⟩
        have HB1 : Hid (Below wr.heap.size wr W1) := Lib.hid (by rw [hW1]; exact (Below.refl _ _).alloc (Nat.le_refl _) _)
        have KB5 : Hid (Blk W1 wr.heap.size 72 #[.string x.op, .string x.nm, .slice Ae x.e.length ce, .slice Aa x.A.length ca, .slice Ab x.B.length cb, .int .i64 x.a]) := Lib.hid (by rw [hW1]; exact Blk.new wr _ _)
        have B1 : Hid (Below W1.heap.size W1 W1.drew) := Lib.hid (Below.refl _ _).drew
        have HQ : Hid (∀ w2, Below W1.heap.size W1 w2 → Below W.heap.size W w2) := Lib.hid fun w2 hb2 => thru (thru HBw.out HB1.out) hb2
        have HCa : Hid (∀ w2, Below W1.heap.size W1 w2 → Calls Tryd.prog 25 #[.slice Aa x.A.length ca] w2 (fun e w' => ∃ L2, e = .returned L2 ∧ StR (fun b => w2.heap.size ≤ b ∧ b < w'.heap.size) n w' x.A L2 ∧ Below w2.heap.size w2 w')) := Lib.hid fun w2 hb2 =>
          HIH.out x.A _ P w2 (hA.below (HQ.out w2 hb2) hP) (lo_up hP (HQ.out w2 hb2).size)
        have HCb : Hid (∀ w2, Below W1.heap.size W1 w2 → Calls Tryd.prog 25 #[.slice Ab x.B.length cb] w2 (fun e w' => ∃ L2, e = .returned L2 ∧ StR (fun b => w2.heap.size ≤ b ∧ b < w'.heap.size) n w' x.B L2 ∧ Below w2.heap.size w2 w')) := Lib.hid fun w2 hb2 =>
          HIH.out x.B _ P w2 (hB'.below (HQ.out w2 hb2) hP) (lo_up hP (HQ.out w2 hb2).size)
        have HS5 : Hid (∀ w', Blk w' wr.heap.size 72 #[.string x.op, .string x.nm, .slice Ae x.e.length ce, .slice Aa x.A.length ca, .slice Ab x.B.length cb, .int .i64 x.a] → (w'.cell? ⟨wr.heap.size, 0, none⟩ = some (.string x.op) ∧ w'.cell? ⟨wr.heap.size, 1, none⟩ = some (.string x.nm) ∧ w'.cell? ⟨wr.heap.size, 2, none⟩ = some (.slice Ae x.e.length ce) ∧ w'.cell? ⟨wr.heap.size, 3, none⟩ = some (.slice Aa x.A.length ca) ∧ w'.cell? ⟨wr.heap.size, 4, none⟩ = some (.slice Ab x.B.length cb) ∧ w'.cell? ⟨wr.heap.size, 5, none⟩ = some (.int .i64 x.a))) := Lib.hid fun w' h => ⟨h.cell 0, h.cell 1, h.cell 2, h.cell 3, h.cell 4, h.cell 5⟩
        have K5 := Lib.hid (HS5.out _ (KB5.out.below B1.out KB5.out.lt))
        have HW1 := Lib.hid hW1
        have HE := Lib.hid hE
        have HLe := Lib.hid hle
        clear hat hi2 hE hA hB' hx hW1 hle hce
        go_wp2_with fail
        rw [← HW1.out]
        go_cut [6] (fun t6 wx => CutS W1 n n' x t6 wx)
        case first =>
          refine wp_region_held_drew (S := fun w' => w'.cell? ⟨wr.heap.size, 0, none⟩ = some (.string x.op) ∧ w'.cell? ⟨wr.heap.size, 1, none⟩ = some (.string x.nm) ∧ w'.cell? ⟨wr.heap.size, 2, none⟩ = some (.slice Ae x.e.length ce) ∧ w'.cell? ⟨wr.heap.size, 3, none⟩ = some (.slice Aa x.A.length ca) ∧ w'.cell? ⟨wr.heap.size, 4, none⟩ = some (.slice Ab x.B.length cb) ∧ w'.cell? ⟨wr.heap.size, 5, none⟩ = some (.int .i64 x.a)) (by kernel_rfl) K5.out (fun k0 => ?_)
          refine wpAnyH_take (i := 0) (oi := ⟨some 15, _, _, _, _, _⟩) (v := ?_) rfl (by kernel_rfl) (by kernel_rfl) (by kernel_rfl) (fun _ _ _ h => h) (Or.inl ⟨by rfl, ?_⟩) k0 ?_
          rotate_left
          · intro w hSw
            try dsimp only at hSw
            go_simp
            try with_reducible rfl
          try simp only [Act.put, List.setIfInBounds_toArray, List.set_cons_zero, List.set_cons_succ]
          refine wpAnyH_take (i := 1) (oi := ⟨some 16, _, _, _, _, _⟩) (v := ?_) rfl (by kernel_rfl) (by kernel_rfl) (by kernel_rfl) (fun _ _ _ h => h) (Or.inl ⟨by rfl, ?_⟩) k0 ?_
          rotate_left
          · intro w hSw
            try dsimp only at hSw
            go_simp
            try with_reducible rfl
          try simp only [Act.put, List.setIfInBounds_toArray, List.set_cons_zero, List.set_cons_succ]
          refine wpAnyH_take (i := 2) (oi := ⟨some 17, _, _, _, _, _⟩) (v := ?_) rfl (by kernel_rfl) (by kernel_rfl) (by kernel_rfl) (fun _ _ _ h => h) (Or.inl ⟨by rfl, ?_⟩) k0 ?_
          rotate_left
          · intro w hSw
            try dsimp only at hSw
            go_simp
            try with_reducible rfl
          try simp only [Act.put, List.setIfInBounds_toArray, List.set_cons_zero, List.set_cons_succ]
          refine wpAnyH_take (i := 3) (oi := ⟨some 18, _, _, _, _, _⟩) (v := ?_) rfl (by kernel_rfl) (by kernel_rfl) (by kernel_rfl) (fun _ _ _ h => h) (Or.inl ⟨by rfl, ?_⟩) k0 ?_
          rotate_left
          · intro w hSw
            try dsimp only at hSw
            go_simp
            try with_reducible rfl
          try simp only [Act.put, List.setIfInBounds_toArray, List.set_cons_zero, List.set_cons_succ]
          refine wpAnyH_take (i := 4) (oi := ⟨some 19, _, _, _, _, _⟩) (v := ?_) rfl (by kernel_rfl) (by kernel_rfl) (by kernel_rfl) (fun _ _ _ h => h) (Or.inl ⟨by rfl, ?_⟩) k0 ?_
          rotate_left
          · intro w hSw
            try dsimp only at hSw
            go_simp
            try with_reducible rfl
          try simp only [Act.put, List.setIfInBounds_toArray, List.set_cons_zero, List.set_cons_succ]
          refine wpAnyH_take (i := 5) (oi := ⟨some 20, _, _, _, _, _⟩) (v := ?_) rfl (by kernel_rfl) (by kernel_rfl) (by kernel_rfl) (fun _ _ _ h => h) (Or.inl ⟨by rfl, ?_⟩) k0 ?_
          rotate_left
          · intro w hSw
            try dsimp only at hSw
            go_simp
            try with_reducible rfl
          try simp only [Act.put, List.setIfInBounds_toArray, List.set_cons_zero, List.set_cons_succ]
          refine wpAnyH_take (i := 6) (oi := ⟨some 21, _, _, _, _, _⟩) (v := ?_) rfl (by kernel_rfl) (by kernel_rfl) (by kernel_rfl) (fun _ _ _ h => h) (Or.inl ⟨by rfl, ?_⟩) k0 ?_
          rotate_left
          · intro w hSw
            try dsimp only at hSw
            go_simp
            try with_reducible rfl
          try simp only [Act.put, List.setIfInBounds_toArray, List.set_cons_zero, List.set_cons_succ]
          refine wpAnyH_take (i := 7) (oi := ⟨some 22, _, _, _, _, _⟩) (v := ?_) rfl (by kernel_rfl) (by kernel_rfl) (by kernel_rfl) (fun _ _ _ h => h) (Or.inl ⟨by rfl, ?_⟩) k0 ?_
          rotate_left
          · intro w hSw
            try dsimp only at hSw
            go_simp
            try with_reducible rfl
          try simp only [Act.put, List.setIfInBounds_toArray, List.set_cons_zero, List.set_cons_succ]
          refine wpAnyH_take (i := 9) (oi := ⟨some 24, _, _, _, _, _⟩) (v := ?_) rfl (by kernel_rfl) (by kernel_rfl) (by kernel_rfl) (fun _ _ _ h => h) (Or.inl ⟨by rfl, ?_⟩) k0 ?_
          rotate_left
          · intro w hSw
            try dsimp only at hSw
            go_simp
            try with_reducible rfl
          try simp only [Act.put, List.setIfInBounds_toArray, List.set_cons_zero, List.set_cons_succ]
          refine wpAnyH_take (i := 10) (oi := ⟨some 25, _, _, _, _, _⟩) (v := ?_) rfl (by kernel_rfl) (by kernel_rfl) (by kernel_rfl) (fun _ _ _ h => h) (Or.inl ⟨by rfl, ?_⟩) k0 ?_
          rotate_left
          · intro w hSw
            try dsimp only at hSw
            go_simp
            try with_reducible rfl
          try simp only [Act.put, List.setIfInBounds_toArray, List.set_cons_zero, List.set_cons_succ]
          refine wpAnyH_ready (rs := [8, 13]) (by kernel_rfl) (by simp) ?_
          refine (AllReadyH.cons (o := ⟨some 23, _, _, _, _, _⟩) rfl (fun K' hK => ?_) (AllReadyH.cons (o := ⟨some 6, _, _, _, _, _⟩) rfl (fun K' hK => ?_) AllReadyH.nil))
          · go_simp
            refine (HCa.out _ B1.out).mono ?_
            rintro e wa ⟨La, rfl, hL, hb⟩
            have Ba : Hid (Below W1.heap.size W1 wa) := Lib.hid (thru B1.out hb)
            have Ka := Lib.hid (HS5.out _ (KB5.out.below Ba.out KB5.out.lt))
            have Ra := Lib.hid hL
            have Da := Lib.hid hb
            obtain ⟨Aa2, ca2, rfl, -, -⟩ := hL.slice
            clear hb hL
            go_wp2_with fail
            refine hK.out _ _ Ka.out (fun h1 => ?_)
            clear hK K'
            try simp only [Act.put, List.setIfInBounds_toArray, List.set_cons_zero, List.set_cons_succ]
            refine wpAnyH_ready (rs := [11, 13]) (by kernel_rfl) (by simp) ?_
            refine (AllReadyH.cons (o := ⟨some 26, _, _, _, _, _⟩) rfl (fun K' hK => ?_) (AllReadyH.cons (o := ⟨some 6, _, _, _, _, _⟩) rfl (fun K' hK => ?_) AllReadyH.nil))
            · go_simp
              refine (HCb.out _ Ba.out).mono ?_
              rintro e wb ⟨Lb, rfl, hL, hb⟩
              have Bb : Hid (Below W1.heap.size W1 wb) := Lib.hid (thru Ba.out hb)
              have Kb := Lib.hid (HS5.out _ (KB5.out.below Bb.out KB5.out.lt))
              have Rb := Lib.hid hL
              have Db := Lib.hid hb
              obtain ⟨Ab2, cb2, rfl, -, -⟩ := hL.slice
              clear hb hL
              go_wp2_with fail
              refine hK.out _ _ Kb.out (fun h2 => ?_)
              clear hK K'
              try simp only [Act.put, List.setIfInBounds_toArray, List.set_cons_zero, List.set_cons_succ]
              refine wpAnyH_take (i := 12) (oi := ⟨some 27, _, _, _, _, _⟩) (v := ?_) rfl (by kernel_rfl) (by kernel_rfl) (by kernel_rfl) (fun _ _ _ h => h) (Or.inl ⟨by rfl, ?_⟩) h2 ?_
              rotate_left
              · intro w hSw
                try dsimp only at hSw
                go_simp
                try with_reducible rfl
              try simp only [Act.put, List.setIfInBounds_toArray, List.set_cons_zero, List.set_cons_succ]
              refine wpAnyH_ready (rs := [13]) (by kernel_rfl) (by simp) ?_
              refine (AllReadyH.cons (o := ⟨some 6, _, _, _, _, _⟩) rfl (fun K' hK => ?_) AllReadyH.nil)
              have Dp : Hid (Below wb.heap.size wb (wb.alloc (.cells #[.string ⟨#[]⟩, .string ⟨#[]⟩, .slice none 0 0, .slice none 0 0, .slice none 0 0, .int .i64 0] 60))) := Lib.hid ((Below.refl _ _).alloc (Nat.le_refl _) _)
              have Bp : Hid (Below W1.heap.size W1 (wb.alloc (.cells #[.string ⟨#[]⟩, .string ⟨#[]⟩, .slice none 0 0, .slice none 0 0, .slice none 0 0, .int .i64 0] 60))) := Lib.hid (thru Bb.out Dp.out)
              have Zp := Lib.hid (Blk.new wb 60 #[.string ⟨#[]⟩, .string ⟨#[]⟩, .slice none 0 0, .slice none 0 0, .slice none 0 0, .int .i64 0])
              have Kp := Lib.hid (HS5.out _ (KB5.out.below Bp.out KB5.out.lt))
              have Ep : Hid ((wb.alloc (.cells #[.string ⟨#[]⟩, .string ⟨#[]⟩, .slice none 0 0, .slice none 0 0, .slice none 0 0, .int .i64 0] 60)).heap.size = wb.heap.size + 1) := Lib.hid (by rw [World.size_alloc])
              go_simp
              refine hK.out _ _ Kp.out (fun h3 => ?_)
              clear hK K'
              try simp only [Act.put, List.setIfInBounds_toArray, List.set_cons_zero, List.set_cons_succ]
              obtain ⟨wz, hwz⟩ : ∃ wz, wz = wb.alloc (.cells #[.string ⟨#[]⟩, .string ⟨#[]⟩, .slice none 0 0, .slice none 0 0, .slice none 0 0, .int .i64 0] 60) := ⟨_, rfl⟩
              obtain ⟨pz, hpz⟩ : ∃ pz, pz = wb.heap.size := ⟨_, rfl⟩
              have Bz : Hid (Below W1.heap.size W1 wz) := Lib.hid (by rw [hwz]; exact Bp.out)
              have KBz := Lib.hid (KB5.out.below Bz.out KB5.out.lt)
              have ZZ : Hid (Blk wz pz 60 #[.string ⟨#[]⟩, .string ⟨#[]⟩, .slice none 0 0, .slice none 0 0, .slice none 0 0, .int .i64 0]) := Lib.hid (by rw [hwz, hpz]; exact Zp.out)
              have PZ : Hid (W1.heap.size ≤ pz ∧ pz < wz.heap.size) := Lib.hid ⟨by rw [hpz]; exact Bb.out.size, ZZ.out.lt⟩
              have NEz : Hid (wr.heap.size ≠ pz) := Lib.hid (Nat.ne_of_lt (Nat.lt_of_lt_of_le KB5.out.lt PZ.out.1))
              have RaZ : Hid (StR (fun b => W1.heap.size ≤ b ∧ b < wz.heap.size ∧ b ≠ pz) n wz x.A (.slice Aa2 x.A.length ca2)) := Lib.hid (by rw [hwz, hpz]; exact ((Ra.out.below Db.out (fun b q => q.2)).below Dp.out (fun b q => Nat.lt_of_lt_of_le q.2 Db.out.size)).wide (fun b q => ⟨Nat.le_trans B1.out.size q.1, Nat.lt_of_lt_of_le (Nat.lt_of_lt_of_le q.2 Db.out.size) Dp.out.size, Nat.ne_of_lt (Nat.lt_of_lt_of_le q.2 Db.out.size)⟩))
              have RbZ : Hid (StR (fun b => W1.heap.size ≤ b ∧ b < wz.heap.size ∧ b ≠ pz) n wz x.B (.slice Ab2 x.B.length cb2)) := Lib.hid (by rw [hwz, hpz]; exact (Rb.out.below Dp.out (fun b q => q.2)).wide (fun b q => ⟨Nat.le_trans Ba.out.size q.1, Nat.lt_of_lt_of_le q.2 Dp.out.size, Nat.ne_of_lt q.2⟩))
              rw [← hwz, ← hpz]
              clear hwz hpz
              refine wpAnyH_ready (rs := [14]) (by kernel_rfl) (by simp) ?_
              refine (AllReadyH.cons (o := ⟨none, _, _, _, _, _⟩) rfl (fun K' hK => ?_) AllReadyH.nil)
              have t0 := ZZ.out.cell 0
              have t1 := ZZ.out.cell 1
              have t2 := ZZ.out.cell 2
              have t3 := ZZ.out.cell 3
              have t4 := ZZ.out.cell 4
              have t5 := ZZ.out.cell 5
              have f0 := ZZ.out.frozen 0
              have f1 := ZZ.out.frozen 1
              have f2 := ZZ.out.frozen 2
              have f3 := ZZ.out.frozen 3
              have f4 := ZZ.out.frozen 4
              have f5 := ZZ.out.frozen 5
              have fl := ZZ.out.lt
              simp at t0 t1 t2 t3 t4 t5
              have KZ6 := Lib.hid (HS5.out _ ((((((KBz.out.far (p := ⟨pz, 0, none⟩) NEz.out (.string x.op)).far (p := ⟨pz, 1, none⟩) NEz.out (.string x.nm)).far (p := ⟨pz, 2, none⟩) NEz.out (.slice none 0 0)).far (p := ⟨pz, 3, none⟩) NEz.out (.slice Aa2 x.A.length ca2)).far (p := ⟨pz, 4, none⟩) NEz.out (.slice Ab2 x.B.length cb2)).far (p := ⟨pz, 5, none⟩) NEz.out (.int .i64 x.a)))
              go_simp
              refine hK.out _ _ KZ6.out (fun h9 => ?_)
              clear hK K'
              try simp only [Act.put, List.setIfInBounds_toArray, List.set_cons_zero, List.set_cons_succ]
              clear t0 t1 t2 t3 t4 t5 f0 f1 f2 f3 f4 f5 fl
              refine wpAnyH_done (by kernel_rfl) ?_ _
              have SI0 := Lib.hid (si_start (op := x.op) (nm := x.nm) (a := x.a) Bz.out PZ.out.1 PZ.out.2 ZZ.out RaZ.out RbZ.out n')
              go_wp2_with fail
              go_meet
              exact ⟨pz, wz.heap.size, Aa2, ca2, Ab2, cb2, rfl, SI0.out⟩
            · have Dp : Hid (Below wa.heap.size wa (wa.alloc (.cells #[.string ⟨#[]⟩, .string ⟨#[]⟩, .slice none 0 0, .slice none 0 0, .slice none 0 0, .int .i64 0] 60))) := Lib.hid ((Below.refl _ _).alloc (Nat.le_refl _) _)
              have Bp : Hid (Below W1.heap.size W1 (wa.alloc (.cells #[.string ⟨#[]⟩, .string ⟨#[]⟩, .slice none 0 0, .slice none 0 0, .slice none 0 0, .int .i64 0] 60))) := Lib.hid (thru Ba.out Dp.out)
              have Zp := Lib.hid (Blk.new wa 60 #[.string ⟨#[]⟩, .string ⟨#[]⟩, .slice none 0 0, .slice none 0 0, .slice none 0 0, .int .i64 0])
              have Kp := Lib.hid (HS5.out _ (KB5.out.below Bp.out KB5.out.lt))
              have Ep : Hid ((wa.alloc (.cells #[.string ⟨#[]⟩, .string ⟨#[]⟩, .slice none 0 0, .slice none 0 0, .slice none 0 0, .int .i64 0] 60)).heap.size = wa.heap.size + 1) := Lib.hid (by rw [World.size_alloc])
              go_simp
              refine hK.out _ _ Kp.out (fun h2 => ?_)
              clear hK K'
              try simp only [Act.put, List.setIfInBounds_toArray, List.set_cons_zero, List.set_cons_succ]
              refine wpAnyH_ready (rs := [11]) (by kernel_rfl) (by simp) ?_
              refine (AllReadyH.cons (o := ⟨some 26, _, _, _, _, _⟩) rfl (fun K' hK => ?_) AllReadyH.nil)
              go_simp
              refine (HCb.out _ Bp.out).mono ?_
              rintro e wb ⟨Lb, rfl, hL, hb⟩
              have Bb : Hid (Below W1.heap.size W1 wb) := Lib.hid (thru Bp.out hb)
              have Kb := Lib.hid (HS5.out _ (KB5.out.below Bb.out KB5.out.lt))
              have Rb := Lib.hid hL
              have Db := Lib.hid hb
              obtain ⟨Ab2, cb2, rfl, -, -⟩ := hL.slice
              clear hb hL
              go_wp2_with fail
              refine hK.out _ _ Kb.out (fun h3 => ?_)
              clear hK K'
              try simp only [Act.put, List.setIfInBounds_toArray, List.set_cons_zero, List.set_cons_succ]
              refine wpAnyH_take (i := 12) (oi := ⟨some 27, _, _, _, _, _⟩) (v := ?_) rfl (by kernel_rfl) (by kernel_rfl) (by kernel_rfl) (fun _ _ _ h => h) (Or.inl ⟨by rfl, ?_⟩) h3 ?_
              rotate_left
              · intro w hSw
                try dsimp only at hSw
                go_simp
                try with_reducible rfl
              try simp only [Act.put, List.setIfInBounds_toArray, List.set_cons_zero, List.set_cons_succ]
              obtain ⟨wz, hwz⟩ : ∃ wz, wz = wb := ⟨_, rfl⟩
              obtain ⟨pz, hpz⟩ : ∃ pz, pz = wa.heap.size := ⟨_, rfl⟩
              have Bz : Hid (Below W1.heap.size W1 wz) := Lib.hid (by rw [hwz]; exact Bb.out)
              have KBz := Lib.hid (KB5.out.below Bz.out KB5.out.lt)
              have ZZ : Hid (Blk wz pz 60 #[.string ⟨#[]⟩, .string ⟨#[]⟩, .slice none 0 0, .slice none 0 0, .slice none 0 0, .int .i64 0]) := Lib.hid (by rw [hwz, hpz]; exact Zp.out.below Db.out Zp.out.lt)
              have PZ : Hid (W1.heap.size ≤ pz ∧ pz < wz.heap.size) := Lib.hid ⟨by rw [hpz]; exact Ba.out.size, ZZ.out.lt⟩
              have NEz : Hid (wr.heap.size ≠ pz) := Lib.hid (Nat.ne_of_lt (Nat.lt_of_lt_of_le KB5.out.lt PZ.out.1))
              have RaZ : Hid (StR (fun b => W1.heap.size ≤ b ∧ b < wz.heap.size ∧ b ≠ pz) n wz x.A (.slice Aa2 x.A.length ca2)) := Lib.hid (by rw [hwz, hpz]; exact ((Ra.out.below Dp.out (fun b q => q.2)).below Db.out (fun b q => Nat.lt_of_lt_of_le q.2 Dp.out.size)).wide (fun b q => ⟨Nat.le_trans B1.out.size q.1, Nat.lt_of_lt_of_le (Nat.lt_of_lt_of_le q.2 Dp.out.size) Db.out.size, Nat.ne_of_lt q.2⟩))
              have RbZ : Hid (StR (fun b => W1.heap.size ≤ b ∧ b < wz.heap.size ∧ b ≠ pz) n wz x.B (.slice Ab2 x.B.length cb2)) := Lib.hid (by rw [hwz, hpz]; exact Rb.out.wide (fun b q => ⟨Nat.le_trans Bp.out.size q.1, q.2, fun e => absurd q.1 (by rw [e, Ep.out]; exact Nat.not_succ_le_self _)⟩))
              rw [← hwz, ← hpz]
              clear hwz hpz
              refine wpAnyH_ready (rs := [14]) (by kernel_rfl) (by simp) ?_
              refine (AllReadyH.cons (o := ⟨none, _, _, _, _, _⟩) rfl (fun K' hK => ?_) AllReadyH.nil)
              have t0 := ZZ.out.cell 0
              have t1 := ZZ.out.cell 1
              have t2 := ZZ.out.cell 2
              have t3 := ZZ.out.cell 3
              have t4 := ZZ.out.cell 4
              have t5 := ZZ.out.cell 5
              have f0 := ZZ.out.frozen 0
              have f1 := ZZ.out.frozen 1
              have f2 := ZZ.out.frozen 2
              have f3 := ZZ.out.frozen 3
              have f4 := ZZ.out.frozen 4
              have f5 := ZZ.out.frozen 5
              have fl := ZZ.out.lt
              simp at t0 t1 t2 t3 t4 t5
              have KZ6 := Lib.hid (HS5.out _ ((((((KBz.out.far (p := ⟨pz, 0, none⟩) NEz.out (.string x.op)).far (p := ⟨pz, 1, none⟩) NEz.out (.string x.nm)).far (p := ⟨pz, 2, none⟩) NEz.out (.slice none 0 0)).far (p := ⟨pz, 3, none⟩) NEz.out (.slice Aa2 x.A.length ca2)).far (p := ⟨pz, 4, none⟩) NEz.out (.slice Ab2 x.B.length cb2)).far (p := ⟨pz, 5, none⟩) NEz.out (.int .i64 x.a)))
              go_simp
              refine hK.out _ _ KZ6.out (fun h9 => ?_)
              clear hK K'
              try simp only [Act.put, List.setIfInBounds_toArray, List.set_cons_zero, List.set_cons_succ]
              clear t0 t1 t2 t3 t4 t5 f0 f1 f2 f3 f4 f5 fl
              refine wpAnyH_done (by kernel_rfl) ?_ _
              have SI0 := Lib.hid (si_start (op := x.op) (nm := x.nm) (a := x.a) Bz.out PZ.out.1 PZ.out.2 ZZ.out RaZ.out RbZ.out n')
              go_wp2_with fail
              go_meet
              exact ⟨pz, wz.heap.size, Aa2, ca2, Ab2, cb2, rfl, SI0.out⟩
          · have Dp : Hid (Below W1.drew.heap.size W1.drew (W1.drew.alloc (.cells #[.string ⟨#[]⟩, .string ⟨#[]⟩, .slice none 0 0, .slice none 0 0, .slice none 0 0, .int .i64 0] 60))) := Lib.hid ((Below.refl _ _).alloc (Nat.le_refl _) _)
            have Bp : Hid (Below W1.heap.size W1 (W1.drew.alloc (.cells #[.string ⟨#[]⟩, .string ⟨#[]⟩, .slice none 0 0, .slice none 0 0, .slice none 0 0, .int .i64 0] 60))) := Lib.hid (thru B1.out Dp.out)
            have Zp := Lib.hid (Blk.new W1.drew 60 #[.string ⟨#[]⟩, .string ⟨#[]⟩, .slice none 0 0, .slice none 0 0, .slice none 0 0, .int .i64 0])
            have Kp := Lib.hid (HS5.out _ (KB5.out.below Bp.out KB5.out.lt))
            have Ep : Hid ((W1.drew.alloc (.cells #[.string ⟨#[]⟩, .string ⟨#[]⟩, .slice none 0 0, .slice none 0 0, .slice none 0 0, .int .i64 0] 60)).heap.size = W1.drew.heap.size + 1) := Lib.hid (by rw [World.size_alloc])
            go_simp
            refine hK.out _ _ Kp.out (fun h1 => ?_)
            clear hK K'
            try simp only [Act.put, List.setIfInBounds_toArray, List.set_cons_zero, List.set_cons_succ]
            refine wpAnyH_ready (rs := [8]) (by kernel_rfl) (by simp) ?_
            refine (AllReadyH.cons (o := ⟨some 23, _, _, _, _, _⟩) rfl (fun K' hK => ?_) AllReadyH.nil)
            go_simp
            refine (HCa.out _ Bp.out).mono ?_
            rintro e wa ⟨La, rfl, hL, hb⟩
            have Ba : Hid (Below W1.heap.size W1 wa) := Lib.hid (thru Bp.out hb)
            have Ka := Lib.hid (HS5.out _ (KB5.out.below Ba.out KB5.out.lt))
            have Ra := Lib.hid hL
            have Da := Lib.hid hb
            obtain ⟨Aa2, ca2, rfl, -, -⟩ := hL.slice
            clear hb hL
            go_wp2_with fail
            refine hK.out _ _ Ka.out (fun h2 => ?_)
            clear hK K'
            try simp only [Act.put, List.setIfInBounds_toArray, List.set_cons_zero, List.set_cons_succ]
            refine wpAnyH_ready (rs := [11]) (by kernel_rfl) (by simp) ?_
            refine (AllReadyH.cons (o := ⟨some 26, _, _, _, _, _⟩) rfl (fun K' hK => ?_) AllReadyH.nil)
            go_simp
            refine (HCb.out _ Ba.out).mono ?_
            rintro e wb ⟨Lb, rfl, hL, hb⟩
            have Bb : Hid (Below W1.heap.size W1 wb) := Lib.hid (thru Ba.out hb)
            have Kb := Lib.hid (HS5.out _ (KB5.out.below Bb.out KB5.out.lt))
            have Rb := Lib.hid hL
            have Db := Lib.hid hb
            obtain ⟨Ab2, cb2, rfl, -, -⟩ := hL.slice
            clear hb hL
            go_wp2_with fail
            refine hK.out _ _ Kb.out (fun h3 => ?_)
            clear hK K'
            try simp only [Act.put, List.setIfInBounds_toArray, List.set_cons_zero, List.set_cons_succ]
            refine wpAnyH_take (i := 12) (oi := ⟨some 27, _, _, _, _, _⟩) (v := ?_) rfl (by kernel_rfl) (by kernel_rfl) (by kernel_rfl) (fun _ _ _ h => h) (Or.inl ⟨by rfl, ?_⟩) h3 ?_
            rotate_left
            · intro w hSw
              try dsimp only at hSw
              go_simp
              try with_reducible rfl
            try simp only [Act.put, List.setIfInBounds_toArray, List.set_cons_zero, List.set_cons_succ]
            obtain ⟨wz, hwz⟩ : ∃ wz, wz = wb := ⟨_, rfl⟩
            obtain ⟨pz, hpz⟩ : ∃ pz, pz = W1.heap.size := ⟨_, rfl⟩
            have Bz : Hid (Below W1.heap.size W1 wz) := Lib.hid (by rw [hwz]; exact Bb.out)
            have KBz := Lib.hid (KB5.out.below Bz.out KB5.out.lt)
            have ZZ : Hid (Blk wz pz 60 #[.string ⟨#[]⟩, .string ⟨#[]⟩, .slice none 0 0, .slice none 0 0, .slice none 0 0, .int .i64 0]) := Lib.hid (by rw [hwz, hpz]; exact (Zp.out.below Da.out Zp.out.lt).below Db.out (Nat.lt_of_lt_of_le Zp.out.lt Da.out.size))
            have PZ : Hid (W1.heap.size ≤ pz ∧ pz < wz.heap.size) := Lib.hid ⟨by rw [hpz]; exact B1.out.size, ZZ.out.lt⟩
            have NEz : Hid (wr.heap.size ≠ pz) := Lib.hid (Nat.ne_of_lt (Nat.lt_of_lt_of_le KB5.out.lt PZ.out.1))
            have RaZ : Hid (StR (fun b => W1.heap.size ≤ b ∧ b < wz.heap.size ∧ b ≠ pz) n wz x.A (.slice Aa2 x.A.length ca2)) := Lib.hid (by rw [hwz, hpz]; exact (Ra.out.below Db.out (fun b q => q.2)).wide (fun b q => ⟨Nat.le_trans Bp.out.size q.1, Nat.lt_of_lt_of_le q.2 Db.out.size, fun e => absurd q.1 (by rw [e, Ep.out]; exact Nat.not_succ_le_self _)⟩))
            have RbZ : Hid (StR (fun b => W1.heap.size ≤ b ∧ b < wz.heap.size ∧ b ≠ pz) n wz x.B (.slice Ab2 x.B.length cb2)) := Lib.hid (by rw [hwz, hpz]; exact Rb.out.wide (fun b q => ⟨Nat.le_trans Ba.out.size q.1, q.2, fun e => absurd (Nat.le_trans Da.out.size q.1) (by rw [e, Ep.out]; exact Nat.not_succ_le_self _)⟩))
            rw [← hwz, ← hpz]
            clear hwz hpz
            refine wpAnyH_ready (rs := [14]) (by kernel_rfl) (by simp) ?_
            refine (AllReadyH.cons (o := ⟨none, _, _, _, _, _⟩) rfl (fun K' hK => ?_) AllReadyH.nil)
            have t0 := ZZ.out.cell 0
            have t1 := ZZ.out.cell 1
            have t2 := ZZ.out.cell 2
            have t3 := ZZ.out.cell 3
            have t4 := ZZ.out.cell 4
            have t5 := ZZ.out.cell 5
            have f0 := ZZ.out.frozen 0
            have f1 := ZZ.out.frozen 1
            have f2 := ZZ.out.frozen 2
            have f3 := ZZ.out.frozen 3
            have f4 := ZZ.out.frozen 4
            have f5 := ZZ.out.frozen 5
            have fl := ZZ.out.lt
            simp at t0 t1 t2 t3 t4 t5
            have KZ6 := Lib.hid (HS5.out _ ((((((KBz.out.far (p := ⟨pz, 0, none⟩) NEz.out (.string x.op)).far (p := ⟨pz, 1, none⟩) NEz.out (.string x.nm)).far (p := ⟨pz, 2, none⟩) NEz.out (.slice none 0 0)).far (p := ⟨pz, 3, none⟩) NEz.out (.slice Aa2 x.A.length ca2)).far (p := ⟨pz, 4, none⟩) NEz.out (.slice Ab2 x.B.length cb2)).far (p := ⟨pz, 5, none⟩) NEz.out (.int .i64 x.a)))
            go_simp
            refine hK.out _ _ KZ6.out (fun h9 => ?_)
            clear hK K'
            try simp only [Act.put, List.setIfInBounds_toArray, List.set_cons_zero, List.set_cons_succ]
            clear t0 t1 t2 t3 t4 t5 f0 f1 f2 f3 f4 f5 fl
            refine wpAnyH_done (by kernel_rfl) ?_ _
            have SI0 := Lib.hid (si_start (op := x.op) (nm := x.nm) (a := x.a) Bz.out PZ.out.1 PZ.out.2 ZZ.out RaZ.out RbZ.out n')
            go_wp2_with fail
            go_meet
            exact ⟨pz, wz.heap.size, Aa2, ca2, Ab2, cb2, rfl, SI0.out⟩
        case rest =>
          obtain ⟨pz, H, Aa2, ca2, Ab2, cb2, rfl, hsi⟩ := hcut
          have HSI := Lib.hid hsi
          have z2 := (KB5.out.below hsi.low KB5.out.lt).cell 2
          simp at z2
          have hxe : x.e.length ≤ 2199023255552 := by have := HLe.out; omega
          clear hsi
          obtain ⟨wa, rfl⟩ : ∃ q, q = wr := ⟨_, rfl⟩
          go_wp2_with fail
          go_loopw [31] (fun i wq => ∃ (j : Nat) (ve : Value), i = .int .i64 (j : Int) ∧ j ≤ x.e.length ∧ SI W1 pz H x.op x.nm (.slice Aa2 x.A.length ca2) (.slice Ab2 x.B.length cb2) x.a n n' x.A x.B (x.e.take j) ve wq) (fun i _ => x.e.length - (RowKit.intOf i).toNat)
          case atStart => exact ⟨0, .slice none 0 0, rfl, Nat.zero_le _, by rw [List.take_zero]; exact HSI.out⟩
          case round =>
            obtain ⟨j, ve, rfl, hj, hsq⟩ := hrel
            have HSQ := Lib.hid hsq
            clear hsq HSI
            obtain ⟨wq, rfl⟩ : ∃ q, q = wr := ⟨_, rfl⟩
            by_cases hjt : j < x.e.length
            · obtain ⟨y, hy⟩ : ∃ y, x.e[j]? = some y := ⟨x.e[j]'hjt, List.getElem?_eq_getElem _⟩
              have hE := HE.out
              rw [HN.out] at hE
              obtain ⟨A0, c0, e0, -, -, hate⟩ := hE
              obtain ⟨b7, off7, L7, rfl, hb7, hat7, hi7, hj7, hr7⟩ := hate j y hy
              injection e0 with e0 e1 e2
              subst e0
              clear e1 e2 hate
              have HIn := Lib.hid (And.intro hi7 hj7)
              have HB7 : Hid (Below W.heap.size W wq) := Lib.hid (HQ.out _ HSQ.out.low)
              obtain ⟨y0, y1, y2, y3, y4⟩ := hat7.below HB7.out (hP b7 hb7)
              obtain ⟨A', cap', rfl, hc', -⟩ := hr7.slice
              have HX := Lib.hid hy
              have HTl : Hid ((x.e.take j).length = j) := Lib.hid (by rw [List.length_take]; omega)
              obtain ⟨W3, hW3⟩ : ∃ W3, W3 = wq.alloc (.cells #[.string y.op, .string y.nm, .int .i64 y.n, .slice A' y.l.length cap', .int .i64 y.a] 104) := ⟨_, rfl⟩
              have HB3 : Hid (Below wq.heap.size wq W3) := Lib.hid (by rw [hW3]; exact (Below.refl _ _).alloc (Nat.le_refl _) _)
              have KB1 : Hid (Blk W3 wq.heap.size 104 #[.string y.op, .string y.nm, .int .i64 y.n, .slice A' y.l.length cap', .int .i64 y.a]) := Lib.hid (by rw [hW3]; exact Blk.new wq _ _)
              have XW3 := Lib.hid (HSQ.out.below HB3.out)
              have B1 : Hid (Below W3.heap.size W3 W3.drew) := Lib.hid (Below.refl _ _).drew
              have HVl := Lib.hid (fun g e => (HSQ.out.own.lt g e).2)
              have HGt : Hid (pz < wq.heap.size) := Lib.hid HSQ.out.b6.lt
              have HCx : Hid (∀ w2, Below W3.heap.size W3 w2 → Calls Tryd.prog 48 #[exV y.op y.nm y.n (.slice A' y.l.length cap') y.a] w2 (fun e w' => ∃ L2, e = .returned (exV y.op y.nm y.n L2 y.a) ∧ ExR (fun b => w2.heap.size ≤ b ∧ b < w'.heap.size) n' w' y.l L2 ∧ Below w2.heap.size w2 w')) := Lib.hid fun w2 hb2 => by
                have q := thru (thru HB7.out HB3.out) hb2
                exact expr_any n' y.l _ _ _ _ _ P w2 (hr7.below q hP) (lo_up hP q.size)
              have HS2 : Hid (∀ w', Blk w' wq.heap.size 104 #[.string y.op, .string y.nm, .int .i64 y.n, .slice A' y.l.length cap', .int .i64 y.a] → (w'.cell? ⟨wq.heap.size, 0, none⟩ = some (.string y.op) ∧ w'.cell? ⟨wq.heap.size, 1, none⟩ = some (.string y.nm) ∧ w'.cell? ⟨wq.heap.size, 2, none⟩ = some (.int .i64 y.n) ∧ w'.cell? ⟨wq.heap.size, 3, none⟩ = some (.slice A' y.l.length cap') ∧ w'.cell? ⟨wq.heap.size, 4, none⟩ = some (.int .i64 y.a))) := Lib.hid fun w' h => ⟨h.cell 0, h.cell 1, h.cell 2, h.cell 3, h.cell 4⟩
              have K1 := Lib.hid (HS2.out _ (KB1.out.below B1.out KB1.out.lt))
              have HW3 := Lib.hid hW3
              clear hat7 hr7 hi7 hj7 hy hW3 z2
              go_wp2_with fail
              rw [← HW3.out]
              refine wp_region_held_drew (S := fun w' => w'.cell? ⟨wq.heap.size, 0, none⟩ = some (.string y.op) ∧ w'.cell? ⟨wq.heap.size, 1, none⟩ = some (.string y.nm) ∧ w'.cell? ⟨wq.heap.size, 2, none⟩ = some (.int .i64 y.n) ∧ w'.cell? ⟨wq.heap.size, 3, none⟩ = some ((.slice A' y.l.length cap')) ∧ w'.cell? ⟨wq.heap.size, 4, none⟩ = some (.int .i64 y.a)) (by kernel_rfl) K1.out (fun k0 => ?_)
              refine wpAnyH_take (i := 0) (oi := ⟨some 35, _, _, _, _, _⟩) (v := ?_) rfl (by kernel_rfl) (by kernel_rfl) (by kernel_rfl) (fun _ _ _ h => h) (Or.inl ⟨by rfl, ?_⟩) k0 ?_
              rotate_left
              · intro w hSw
                try dsimp only at hSw
                go_simp
                try with_reducible rfl
              try simp only [Act.put, List.setIfInBounds_toArray, List.set_cons_zero, List.set_cons_succ]
              refine wpAnyH_take (i := 2) (oi := ⟨some 37, _, _, _, _, _⟩) (v := ?_) rfl (by kernel_rfl) (by kernel_rfl) (by kernel_rfl) (fun _ _ _ h => h) (Or.inl ⟨by rfl, ?_⟩) k0 ?_
              rotate_left
              · intro w hSw
                try dsimp only at hSw
                go_simp
                try with_reducible rfl
              try simp only [Act.put, List.setIfInBounds_toArray, List.set_cons_zero, List.set_cons_succ]
              refine wpAnyH_ready (rs := [1, 3]) (by kernel_rfl) (by simp) ?_
              refine (AllReadyH.cons (o := ⟨some 36, _, _, _, _, _⟩) rfl (fun K' hK => ?_) (AllReadyH.cons (o := ⟨some 38, _, _, _, _, _⟩) rfl (fun K' hK => ?_) AllReadyH.nil))
              · have tf : W3.cell? ⟨pz, 2, none⟩ = some ve := XW3.out.b6.cell 2
                go_simp
                refine hK.out _ _ K1.out (fun h1 => ?_)
                clear hK K'
                try simp only [Act.put, List.setIfInBounds_toArray, List.set_cons_zero, List.set_cons_succ]
                clear tf
                refine wpAnyH_ready (rs := [3]) (by kernel_rfl) (by simp) ?_
                refine (AllReadyH.cons (o := ⟨some 38, _, _, _, _, _⟩) rfl (fun K' hK => ?_) AllReadyH.nil)
                go_simp
                refine (HCx.out _ B1.out).mono ?_
                rintro e w2 ⟨L2, rfl, hL2, hb⟩
                have B2 : Hid (Below W3.heap.size W3 w2) := Lib.hid (thru B1.out hb)
                have Xw2 := Lib.hid (XW3.out.below B2.out)
                have KB2 := Lib.hid (KB1.out.below B2.out KB1.out.lt)
                have K2 := Lib.hid (HS2.out _ KB2.out)
                have HL2 := Lib.hid hL2
                obtain ⟨A2, c2, rfl, -, -⟩ := hL2.slice
                clear hb hL2
                go_wp2_with fail
                refine hK.out _ _ K2.out (fun h2 => ?_)
                clear hK K'
                try simp only [Act.put, List.setIfInBounds_toArray, List.set_cons_zero, List.set_cons_succ]
                refine wpAnyH_ready (rs := [4]) (by kernel_rfl) (by simp) ?_
                refine (AllReadyH.cons (o := ⟨some 39, _, _, _, _, _⟩) rfl (fun K' hK => ?_) AllReadyH.nil)
                have B3 : Hid (Below w2.heap.size w2 (w2.alloc (.cells #[.string y.op, .string y.nm, .int .i64 y.n, .slice A2 y.l.length c2, .int .i64 y.a] 52))) := Lib.hid ((Below.refl _ _).alloc (Nat.le_refl _) _)
                have X3 := Lib.hid (Xw2.out.below B3.out)
                have KB3 := Lib.hid (KB2.out.below B3.out KB2.out.lt)
                have K3 := Lib.hid (HS2.out _ KB3.out)
                have N3 := Lib.hid (Blk.new w2 52 #[.string y.op, .string y.nm, .int .i64 y.n, .slice A2 y.l.length c2, .int .i64 y.a])
                go_simp
                refine hK.out _ _ K3.out (fun h3 => ?_)
                clear hK K'
                try simp only [Act.put, List.setIfInBounds_toArray, List.set_cons_zero, List.set_cons_succ]
                refine wpAnyH_ready (rs := [5]) (by kernel_rfl) (by simp) ?_
                refine (AllReadyH.cons (o := ⟨some 40, _, _, _, _, _⟩) rfl (fun K' hK => ?_) AllReadyH.nil)
                obtain ⟨css, hcs1, hcs2, hcs3⟩ := X3.out.own
                rw [HTl.out] at hcs2
                rw [if_pos (by rfl)]
                have hgood : [Value.string y.op, .string y.nm, .int .i64 y.n, .slice A2 y.l.length c2, .int .i64 y.a].length = 5 ∧ (kEx n').good (fun b => H ≤ b ∧ b < (w2.alloc (.cells #[.string y.op, .string y.nm, .int .i64 y.n, .slice A2 y.l.length c2, .int .i64 y.a] 52)).heap.size ∧ ve.ownBlock ≠ some b) (w2.alloc (.cells #[.string y.op, .string y.nm, .int .i64 y.n, .slice A2 y.l.length c2, .int .i64 y.a] 52)) y [.string y.op, .string y.nm, .int .i64 y.n, .slice A2 y.l.length c2, .int .i64 y.a] :=
                  ⟨rfl, _, rfl, HIn.out.1, HIn.out.2, (HL2.out.below B3.out (fun b q => q.2)).wide (fun b q => ⟨Nat.le_trans XW3.out.hs q.1, Nat.lt_of_lt_of_le q.2 B3.out.size, fun e => absurd (XW3.out.own.lt b e).2 (Nat.not_lt.2 q.1)⟩)⟩
                refine wp_append_at (.tmp 36) (.tmp 39) 50 rfl H 52 i0 (.agg #[.string ⟨#[]⟩, .string ⟨#[]⟩, .int .i64 0, .slice none 0 0, .int .i64 0]) 5 72 Tryd.underlying50 HI0.out.1 HI0.out.2.1 HI0.out.2.2.1 HI0.out.2.2.2 rfl (by decide) ve j css.flatten rfl hcs2 ⟨w2.heap.size, 0, none⟩ 1 1 [.string y.op, .string y.nm, .int .i64 y.n, .slice A2 y.l.length c2, .int .i64 y.a] rfl rfl (news_five N3.out) (one_five _ _ _ _ _ _ _) (by unfold maxLen; omega) (by have := HLe.out; omega) X3.out.hs ?_
                intro v5 w5 ho hg hv
                have X5 := Lib.hid (X3.out.more HX.out hcs1 hcs3 hcs2 ho hg hv hgood)
                have KB5 : Hid (Blk w5 wq.heap.size 104 #[.string y.op, .string y.nm, .int .i64 y.n, .slice A' y.l.length cap', .int .i64 y.a]) := Lib.hid (KB3.out.grown hg (fun e => absurd (HVl.out _ e.symm) (Nat.lt_irrefl _)))
                have K5 := Lib.hid (HS2.out _ KB5.out)
                obtain ⟨A5, c5, rfl⟩ : ∃ A5 c5, v5 = .slice A5 (j + 1) c5 := by
                  rcases ho.2 with ⟨_, h0⟩ | ⟨g, cap, cur, e, _⟩
                  · omega
                  · exact ⟨_, _, e⟩
                clear ho hg hv hcs1 hcs2 hcs3 hgood
                refine hK.out _ _ K5.out (fun h5 => ?_)
                clear hK K'
                try simp only [Act.put, List.setIfInBounds_toArray, List.set_cons_zero, List.set_cons_succ]
                refine wpAnyH_take (i := 6) (oi := ⟨some 41, _, _, _, _, _⟩) (v := ?_) rfl (by kernel_rfl) (by kernel_rfl) (by kernel_rfl) (fun _ _ _ h => h) (Or.inl ⟨by rfl, ?_⟩) h5 ?_
                rotate_left
                · intro w hSw
                  try dsimp only at hSw
                  go_simp
                  try with_reducible rfl
                try simp only [Act.put, List.setIfInBounds_toArray, List.set_cons_zero, List.set_cons_succ]
                refine wpAnyH_ready (rs := [7]) (by kernel_rfl) (by simp) ?_
                refine (AllReadyH.cons (o := ⟨none, _, _, _, _, _⟩) rfl (fun K' hK => ?_) AllReadyH.nil)
                have t0 := X5.out.b6.cell 2
                have t1 := X5.out.b6.frozen 2
                have t2 := X5.out.b6.lt
                simp at t0
                have K6 := Lib.hid (HS2.out _ (KB5.out.far (p := ⟨pz, 2, none⟩) (Nat.ne_of_gt HGt.out) (.slice A5 (j + 1) c5)))
                go_simp
                refine hK.out _ _ K6.out (fun h6 => ?_)
                clear hK K'
                try simp only [Act.put, List.setIfInBounds_toArray, List.set_cons_zero, List.set_cons_succ]
                clear t0 t1 t2
                refine wpAnyH_done (by kernel_rfl) ?_ _
                have X6 := Lib.hid (X5.out.put)
                obtain ⟨w6, hw6⟩ : ∃ x, w5.setCell ⟨pz, 2, none⟩ (.slice A5 (j + 1) c5) = x := ⟨_, rfl⟩
                rw [hw6] at X6 ⊢
                clear hw6
                go_wp2_with fail
                go_roundw
                case rel => exact ⟨j + 1, .slice A5 (j + 1) c5, by go_num, hjt, X6.out⟩
                case measure => simp [RowKit.intOf]; omega
              · go_simp
                refine (HCx.out _ B1.out).mono ?_
                rintro e w2 ⟨L2, rfl, hL2, hb⟩
                have B2 : Hid (Below W3.heap.size W3 w2) := Lib.hid (thru B1.out hb)
                have Xw2 := Lib.hid (XW3.out.below B2.out)
                have KB2 := Lib.hid (KB1.out.below B2.out KB1.out.lt)
                have K2 := Lib.hid (HS2.out _ KB2.out)
                have HL2 := Lib.hid hL2
                obtain ⟨A2, c2, rfl, -, -⟩ := hL2.slice
                clear hb hL2
                go_wp2_with fail
                refine hK.out _ _ K2.out (fun h2 => ?_)
                clear hK K'
                try simp only [Act.put, List.setIfInBounds_toArray, List.set_cons_zero, List.set_cons_succ]
                refine wpAnyH_ready (rs := [1, 4]) (by kernel_rfl) (by simp) ?_
                refine (AllReadyH.cons (o := ⟨some 36, _, _, _, _, _⟩) rfl (fun K' hK => ?_) (AllReadyH.cons (o := ⟨some 39, _, _, _, _, _⟩) rfl (fun K' hK => ?_) AllReadyH.nil))
                · have tf : w2.cell? ⟨pz, 2, none⟩ = some ve := Xw2.out.b6.cell 2
                  go_simp
                  refine hK.out _ _ K2.out (fun h3 => ?_)
                  clear hK K'
                  try simp only [Act.put, List.setIfInBounds_toArray, List.set_cons_zero, List.set_cons_succ]
                  clear tf
                  refine wpAnyH_ready (rs := [4]) (by kernel_rfl) (by simp) ?_
                  refine (AllReadyH.cons (o := ⟨some 39, _, _, _, _, _⟩) rfl (fun K' hK => ?_) AllReadyH.nil)
                  have B3 : Hid (Below w2.heap.size w2 (w2.alloc (.cells #[.string y.op, .string y.nm, .int .i64 y.n, .slice A2 y.l.length c2, .int .i64 y.a] 52))) := Lib.hid ((Below.refl _ _).alloc (Nat.le_refl _) _)
                  have X3 := Lib.hid (Xw2.out.below B3.out)
                  have KB3 := Lib.hid (KB2.out.below B3.out KB2.out.lt)
                  have K3 := Lib.hid (HS2.out _ KB3.out)
                  have N3 := Lib.hid (Blk.new w2 52 #[.string y.op, .string y.nm, .int .i64 y.n, .slice A2 y.l.length c2, .int .i64 y.a])
                  go_simp
                  refine hK.out _ _ K3.out (fun h4 => ?_)
                  clear hK K'
                  try simp only [Act.put, List.setIfInBounds_toArray, List.set_cons_zero, List.set_cons_succ]
                  refine wpAnyH_ready (rs := [5]) (by kernel_rfl) (by simp) ?_
                  refine (AllReadyH.cons (o := ⟨some 40, _, _, _, _, _⟩) rfl (fun K' hK => ?_) AllReadyH.nil)
                  obtain ⟨css, hcs1, hcs2, hcs3⟩ := X3.out.own
                  rw [HTl.out] at hcs2
                  rw [if_pos (by rfl)]
                  have hgood : [Value.string y.op, .string y.nm, .int .i64 y.n, .slice A2 y.l.length c2, .int .i64 y.a].length = 5 ∧ (kEx n').good (fun b => H ≤ b ∧ b < (w2.alloc (.cells #[.string y.op, .string y.nm, .int .i64 y.n, .slice A2 y.l.length c2, .int .i64 y.a] 52)).heap.size ∧ ve.ownBlock ≠ some b) (w2.alloc (.cells #[.string y.op, .string y.nm, .int .i64 y.n, .slice A2 y.l.length c2, .int .i64 y.a] 52)) y [.string y.op, .string y.nm, .int .i64 y.n, .slice A2 y.l.length c2, .int .i64 y.a] :=
                    ⟨rfl, _, rfl, HIn.out.1, HIn.out.2, (HL2.out.below B3.out (fun b q => q.2)).wide (fun b q => ⟨Nat.le_trans XW3.out.hs q.1, Nat.lt_of_lt_of_le q.2 B3.out.size, fun e => absurd (XW3.out.own.lt b e).2 (Nat.not_lt.2 q.1)⟩)⟩
                  refine wp_append_at (.tmp 36) (.tmp 39) 50 rfl H 52 i0 (.agg #[.string ⟨#[]⟩, .string ⟨#[]⟩, .int .i64 0, .slice none 0 0, .int .i64 0]) 5 72 Tryd.underlying50 HI0.out.1 HI0.out.2.1 HI0.out.2.2.1 HI0.out.2.2.2 rfl (by decide) ve j css.flatten rfl hcs2 ⟨w2.heap.size, 0, none⟩ 1 1 [.string y.op, .string y.nm, .int .i64 y.n, .slice A2 y.l.length c2, .int .i64 y.a] rfl rfl (news_five N3.out) (one_five _ _ _ _ _ _ _) (by unfold maxLen; omega) (by have := HLe.out; omega) X3.out.hs ?_
                  intro v5 w5 ho hg hv
                  have X5 := Lib.hid (X3.out.more HX.out hcs1 hcs3 hcs2 ho hg hv hgood)
                  have KB5 : Hid (Blk w5 wq.heap.size 104 #[.string y.op, .string y.nm, .int .i64 y.n, .slice A' y.l.length cap', .int .i64 y.a]) := Lib.hid (KB3.out.grown hg (fun e => absurd (HVl.out _ e.symm) (Nat.lt_irrefl _)))
                  have K5 := Lib.hid (HS2.out _ KB5.out)
                  obtain ⟨A5, c5, rfl⟩ : ∃ A5 c5, v5 = .slice A5 (j + 1) c5 := by
                    rcases ho.2 with ⟨_, h0⟩ | ⟨g, cap, cur, e, _⟩
                    · omega
                    · exact ⟨_, _, e⟩
                  clear ho hg hv hcs1 hcs2 hcs3 hgood
                  refine hK.out _ _ K5.out (fun h5 => ?_)
                  clear hK K'
                  try simp only [Act.put, List.setIfInBounds_toArray, List.set_cons_zero, List.set_cons_succ]
                  refine wpAnyH_take (i := 6) (oi := ⟨some 41, _, _, _, _, _⟩) (v := ?_) rfl (by kernel_rfl) (by kernel_rfl) (by kernel_rfl) (fun _ _ _ h => h) (Or.inl ⟨by rfl, ?_⟩) h5 ?_
                  rotate_left
                  · intro w hSw
                    try dsimp only at hSw
                    go_simp
                    try with_reducible rfl
                  try simp only [Act.put, List.setIfInBounds_toArray, List.set_cons_zero, List.set_cons_succ]
                  refine wpAnyH_ready (rs := [7]) (by kernel_rfl) (by simp) ?_
                  refine (AllReadyH.cons (o := ⟨none, _, _, _, _, _⟩) rfl (fun K' hK => ?_) AllReadyH.nil)
                  have t0 := X5.out.b6.cell 2
                  have t1 := X5.out.b6.frozen 2
                  have t2 := X5.out.b6.lt
                  simp at t0
                  have K6 := Lib.hid (HS2.out _ (KB5.out.far (p := ⟨pz, 2, none⟩) (Nat.ne_of_gt HGt.out) (.slice A5 (j + 1) c5)))
                  go_simp
                  refine hK.out _ _ K6.out (fun h6 => ?_)
                  clear hK K'
                  try simp only [Act.put, List.setIfInBounds_toArray, List.set_cons_zero, List.set_cons_succ]
                  clear t0 t1 t2
                  refine wpAnyH_done (by kernel_rfl) ?_ _
                  have X6 := Lib.hid (X5.out.put)
                  obtain ⟨w6, hw6⟩ : ∃ x, w5.setCell ⟨pz, 2, none⟩ (.slice A5 (j + 1) c5) = x := ⟨_, rfl⟩
                  rw [hw6] at X6 ⊢
                  clear hw6
                  go_wp2_with fail
                  go_roundw
                  case rel => exact ⟨j + 1, .slice A5 (j + 1) c5, by go_num, hjt, X6.out⟩
                  case measure => simp [RowKit.intOf]; omega
                · have B3 : Hid (Below w2.heap.size w2 (w2.alloc (.cells #[.string y.op, .string y.nm, .int .i64 y.n, .slice A2 y.l.length c2, .int .i64 y.a] 52))) := Lib.hid ((Below.refl _ _).alloc (Nat.le_refl _) _)
                  have X3 := Lib.hid (Xw2.out.below B3.out)
                  have KB3 := Lib.hid (KB2.out.below B3.out KB2.out.lt)
                  have K3 := Lib.hid (HS2.out _ KB3.out)
                  have N3 := Lib.hid (Blk.new w2 52 #[.string y.op, .string y.nm, .int .i64 y.n, .slice A2 y.l.length c2, .int .i64 y.a])
                  go_simp
                  refine hK.out _ _ K3.out (fun h3 => ?_)
                  clear hK K'
                  try simp only [Act.put, List.setIfInBounds_toArray, List.set_cons_zero, List.set_cons_succ]
                  refine wpAnyH_ready (rs := [1]) (by kernel_rfl) (by simp) ?_
                  refine (AllReadyH.cons (o := ⟨some 36, _, _, _, _, _⟩) rfl (fun K' hK => ?_) AllReadyH.nil)
                  have tf : (w2.alloc (.cells #[.string y.op, .string y.nm, .int .i64 y.n, .slice A2 y.l.length c2, .int .i64 y.a] 52)).cell? ⟨pz, 2, none⟩ = some ve := X3.out.b6.cell 2
                  go_simp
                  refine hK.out _ _ K3.out (fun h4 => ?_)
                  clear hK K'
                  try simp only [Act.put, List.setIfInBounds_toArray, List.set_cons_zero, List.set_cons_succ]
                  clear tf
                  refine wpAnyH_ready (rs := [5]) (by kernel_rfl) (by simp) ?_
                  refine (AllReadyH.cons (o := ⟨some 40, _, _, _, _, _⟩) rfl (fun K' hK => ?_) AllReadyH.nil)
                  obtain ⟨css, hcs1, hcs2, hcs3⟩ := X3.out.own
                  rw [HTl.out] at hcs2
                  rw [if_pos (by rfl)]
                  have hgood : [Value.string y.op, .string y.nm, .int .i64 y.n, .slice A2 y.l.length c2, .int .i64 y.a].length = 5 ∧ (kEx n').good (fun b => H ≤ b ∧ b < (w2.alloc (.cells #[.string y.op, .string y.nm, .int .i64 y.n, .slice A2 y.l.length c2, .int .i64 y.a] 52)).heap.size ∧ ve.ownBlock ≠ some b) (w2.alloc (.cells #[.string y.op, .string y.nm, .int .i64 y.n, .slice A2 y.l.length c2, .int .i64 y.a] 52)) y [.string y.op, .string y.nm, .int .i64 y.n, .slice A2 y.l.length c2, .int .i64 y.a] :=
                    ⟨rfl, _, rfl, HIn.out.1, HIn.out.2, (HL2.out.below B3.out (fun b q => q.2)).wide (fun b q => ⟨Nat.le_trans XW3.out.hs q.1, Nat.lt_of_lt_of_le q.2 B3.out.size, fun e => absurd (XW3.out.own.lt b e).2 (Nat.not_lt.2 q.1)⟩)⟩
                  refine wp_append_at (.tmp 36) (.tmp 39) 50 rfl H 52 i0 (.agg #[.string ⟨#[]⟩, .string ⟨#[]⟩, .int .i64 0, .slice none 0 0, .int .i64 0]) 5 72 Tryd.underlying50 HI0.out.1 HI0.out.2.1 HI0.out.2.2.1 HI0.out.2.2.2 rfl (by decide) ve j css.flatten rfl hcs2 ⟨w2.heap.size, 0, none⟩ 1 1 [.string y.op, .string y.nm, .int .i64 y.n, .slice A2 y.l.length c2, .int .i64 y.a] rfl rfl (news_five N3.out) (one_five _ _ _ _ _ _ _) (by unfold maxLen; omega) (by have := HLe.out; omega) X3.out.hs ?_
                  intro v5 w5 ho hg hv
                  have X5 := Lib.hid (X3.out.more HX.out hcs1 hcs3 hcs2 ho hg hv hgood)
                  have KB5 : Hid (Blk w5 wq.heap.size 104 #[.string y.op, .string y.nm, .int .i64 y.n, .slice A' y.l.length cap', .int .i64 y.a]) := Lib.hid (KB3.out.grown hg (fun e => absurd (HVl.out _ e.symm) (Nat.lt_irrefl _)))
                  have K5 := Lib.hid (HS2.out _ KB5.out)
                  obtain ⟨A5, c5, rfl⟩ : ∃ A5 c5, v5 = .slice A5 (j + 1) c5 := by
                    rcases ho.2 with ⟨_, h0⟩ | ⟨g, cap, cur, e, _⟩
                    · omega
                    · exact ⟨_, _, e⟩
                  clear ho hg hv hcs1 hcs2 hcs3 hgood
                  refine hK.out _ _ K5.out (fun h5 => ?_)
                  clear hK K'
                  try simp only [Act.put, List.setIfInBounds_toArray, List.set_cons_zero, List.set_cons_succ]
                  refine wpAnyH_take (i := 6) (oi := ⟨some 41, _, _, _, _, _⟩) (v := ?_) rfl (by kernel_rfl) (by kernel_rfl) (by kernel_rfl) (fun _ _ _ h => h) (Or.inl ⟨by rfl, ?_⟩) h5 ?_
                  rotate_left
                  · intro w hSw
                    try dsimp only at hSw
                    go_simp
                    try with_reducible rfl
                  try simp only [Act.put, List.setIfInBounds_toArray, List.set_cons_zero, List.set_cons_succ]
                  refine wpAnyH_ready (rs := [7]) (by kernel_rfl) (by simp) ?_
                  refine (AllReadyH.cons (o := ⟨none, _, _, _, _, _⟩) rfl (fun K' hK => ?_) AllReadyH.nil)
                  have t0 := X5.out.b6.cell 2
                  have t1 := X5.out.b6.frozen 2
                  have t2 := X5.out.b6.lt
                  simp at t0
                  have K6 := Lib.hid (HS2.out _ (KB5.out.far (p := ⟨pz, 2, none⟩) (Nat.ne_of_gt HGt.out) (.slice A5 (j + 1) c5)))
                  go_simp
                  refine hK.out _ _ K6.out (fun h6 => ?_)
                  clear hK K'
                  try simp only [Act.put, List.setIfInBounds_toArray, List.set_cons_zero, List.set_cons_succ]
                  clear t0 t1 t2
                  refine wpAnyH_done (by kernel_rfl) ?_ _
                  have X6 := Lib.hid (X5.out.put)
                  obtain ⟨w6, hw6⟩ : ∃ x, w5.setCell ⟨pz, 2, none⟩ (.slice A5 (j + 1) c5) = x := ⟨_, rfl⟩
                  rw [hw6] at X6 ⊢
                  clear hw6
                  go_wp2_with fail
                  go_roundw
                  case rel => exact ⟨j + 1, .slice A5 (j + 1) c5, by go_num, hjt, X6.out⟩
                  case measure => simp [RowKit.intOf]; omega
            · have hje : j = x.e.length := by omega
              subst hje
              have hTe : x.e.take x.e.length = x.e := List.take_length
              rw [hTe] at HSQ
              clear hTe
              obtain ⟨Av, cv, rfl⟩ : ∃ Av cv, ve = .slice Av x.e.length cv := by
                obtain ⟨A9, c9, e, -⟩ := HSQ.out.own.row
                exact ⟨_, _, e⟩
              have HBa : Hid (Below wq.heap.size wq (wq.alloc (.cells #[.string x.op, .string x.nm, .slice Av x.e.length cv, .slice Aa2 x.A.length ca2, .slice Ab2 x.B.length cb2, .int .i64 x.a] 60))) := Lib.hid ((Below.refl _ _).alloc (Nat.le_refl _) _)
              have N4 := Lib.hid (Blk.new wq 60 #[.string x.op, .string x.nm, .slice Av x.e.length cv, .slice Aa2 x.A.length ca2, .slice Ab2 x.B.length cb2, .int .i64 x.a])
              have X4 := Lib.hid (HSQ.out.below HBa.out)
              have HBall := Lib.hid (thru (thru HB1.out HSQ.out.low) HBa.out)
              have HO2 := Lib.hid (HOw.out.below HBall.out)
              have hgood : [Value.string x.op, .string x.nm, .slice Av x.e.length cv, .slice Aa2 x.A.length ca2, .slice Ab2 x.B.length cb2, .int .i64 x.a].length = 6 ∧ (kSt n).good (fun b => W.heap.size ≤ b ∧ b < (wq.alloc (.cells #[.string x.op, .string x.nm, .slice Av x.e.length cv, .slice Aa2 x.A.length ca2, .slice Ab2 x.B.length cb2, .int .i64 x.a] 60)).heap.size ∧ u3.ownBlock ≠ some b) (wq.alloc (.cells #[.string x.op, .string x.nm, .slice Av x.e.length cv, .slice Aa2 x.A.length ca2, .slice Ab2 x.B.length cb2, .int .i64 x.a] 60)) x [.string x.op, .string x.nm, .slice Av x.e.length cv, .slice Aa2 x.A.length ca2, .slice Ab2 x.B.length cb2, .int .i64 x.a] := by
                have hlo : ∀ b, W1.heap.size ≤ b → W.heap.size ≤ b ∧ u3.ownBlock ≠ some b := fun b hb => ⟨Nat.le_trans (Nat.le_trans HBw.out.size HB1.out.size) hb, fun e => absurd (HOw.out.lt b e).2 (Nat.not_lt.2 (Nat.le_trans HB1.out.size hb))⟩
                have hx1 := own_ex X4.out.own HLe.out
                rw [← HN.out] at hx1
                refine ⟨rfl, _, _, _, rfl, HIn0.out, hx1.wide (fun b q => ?_), X4.out.rA.wide (fun b q => ?_), X4.out.rB.wide (fun b q => ?_)⟩
                · have := hlo b (Nat.le_trans (Nat.le_trans X4.out.p1 (Nat.le_of_lt X4.out.pH)) q.1)
                  exact ⟨this.1, q.2, this.2⟩
                · exact ⟨(hlo b q.1).1, Nat.lt_of_lt_of_le q.2.1 X4.out.hs, (hlo b q.1).2⟩
                · exact ⟨(hlo b q.1).1, Nat.lt_of_lt_of_le q.2.1 X4.out.hs, (hlo b q.1).2⟩
              have HGd := Lib.hid hgood
              have o0 := HSQ.out.b6.cell 0
              have o1 := HSQ.out.b6.cell 1
              have o2 := HSQ.out.b6.cell 2
              have o3 := HSQ.out.b6.cell 3
              have o4 := HSQ.out.b6.cell 4
              have o5 := HSQ.out.b6.cell 5
              simp at o0 o1 o2 o3 o4 o5
              obtain ⟨css, hcs1, hcs2, hcs3⟩ := HO2.out
              rw [HTl0.out] at hcs2
              have C1 := Lib.hid hcs1
              have C2 := Lib.hid hcs2
              have C3 := Lib.hid hcs3
              clear hcs1 hcs2 hcs3 hgood z2
              go_wp2_with (at_builtin; refine wpList_append_at rfl _ _ 33 rfl W.heap.size 60 i1 (.agg #[.string ⟨#[]⟩, .string ⟨#[]⟩, .slice none 0 0, .slice none 0 0, .slice none 0 0, .int .i64 0]) 6 112 Tryd.underlying33 HI1.out.1 HI1.out.2.1 HI1.out.2.2.1 HI1.out.2.2.2 rfl (by decide) u3 k css.flatten rfl C2.out ⟨wq.heap.size, 0, none⟩ 1 1 [.string x.op, .string x.nm, .slice Av x.e.length cv, .slice Aa2 x.A.length ca2, .slice Ab2 x.B.length cb2, .int .i64 x.a] rfl rfl (news_six N4.out) (one_six _ _ _ _ _ _ _ _ _ _ _ _) (by unfold maxLen; omega) (by have := HLim.out; omega) (Nat.le_trans HBw.out.size HBall.out.size) ?_; intro v5 w5 ho hg hv; have O5 : Hid (OwnL (kSt n) 60 6 W.heap.size w5 v5 (l.take k ++ [x])) := Lib.hid (OwnL.more C1.out C3.out (by rw [HTl0.out]; exact ho) hg hv HGd.out.1 HGd.out.2); have B5 : Hid (Below W.heap.size W w5) := Lib.hid (Below.grown (thru HBw.out HBall.out) hg (thru HBw.out HBall.out).size (fun g e => (C2.out.lt g e).1)); clear ho hg hv)
              rw [← take_one HX0.out] at O5
              go_roundw
              case rel => exact ⟨k + 1, by go_num, hlt, O5.out, B5.out⟩
              case measure => simp [RowKit.intOf]; omega
      · have he : k = m := by omega
        subst he
        have hT : l.take k = l := by rw [← HM.out, List.take_length]
        have HO := HOw.out
        rw [hT] at HO
        have HZ := Lib.hid (own_st HO (by rw [HM.out]; exact HLim.out))
        obtain ⟨A9, c9, rfl⟩ : ∃ A9 c9, u3 = .slice A9 k c9 := by
          obtain ⟨A9, c9, e, -⟩ := HO.row
          rw [HM.out] at e
          exact ⟨_, _, e⟩
        clear HO hT
        go_wp2_with fail
        go_ret
        exact ⟨_, rfl, HZ.out, HBw.out⟩
end Go.Proofs.YtklfcjimgnnlfaaDoor
