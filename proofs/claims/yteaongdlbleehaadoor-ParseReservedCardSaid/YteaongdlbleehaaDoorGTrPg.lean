/- Put together of: TrExpr, TrStmts, TrSame, TrPg, TrPgSame. -/
import Derived.Test.YteaongdlbleehaaDoorGTrNum
import Derived.Deep.RegionLaw
import Derived.Deep.DrawnRows
import Derived.Deep.DeepCutAuto
import Derived.Deep.QuietTactic
import Derived.BigQuiet
/- The tree layer: the law's Expr: the program's expression, of the document's. -/
namespace Go.Proofs.YteaongdlbleehaaDoor
open Go.RowKit
attribute [local go_sem ↓] Go.wp_at_zero Go.wp_at_succ
theorem einfo : (Tryd.prog.info? 24).map (fun i => (i.zero, i.size, i.bytes)) = some (some (.agg #[.string ⟨#[]⟩, .string ⟨#[]⟩, .int .i64 0, .slice none 0 0, .int .i64 0]), 5, 72) := by kernel_rfl
theorem news_five {w : World} {g : Nat} {t : TypeId} {a b c d e : Value} (h : Blk w g t #[a, b, c, d, e]) : ∀ (j : Nat) (u : Value), [a, b, c, d, e][j]? = some u → w.cell? ((⟨g, 0, none⟩ : Addr).add j) = some u := fun j u hu => by
  rw [Addr.add_lit, Nat.zero_add]
  exact (h.cell j).trans (by simpa using hu)
theorem one_five (a b : ByteArray) (c : Int) (A : Option Addr) (n cap : Nat) (d : Int) : ∀ u ∈ [Value.string a, Value.string b, Value.int .i64 c, Value.slice A n cap, Value.int .i64 d], u.oneCell' = true := by
  intro u hu
  simp at hu
  rcases hu with rfl | rfl | rfl | rfl | rfl <;> rfl
/-- While Expr goes: its result's box, the expression's own box, the row of parts so far. -/
structure XI (W : World) (op nm : ByteArray) (q a : Int) (n : Nat) (l : List Ex) (v : Value) (w : World) : Prop where
  low : Below W.heap.size W w
  b2 : Blk w (W.heap.size + 1) 24 #[.string ⟨#[]⟩, .string ⟨#[]⟩, .int .i64 0, .slice none 0 0, .int .i64 0]
  b3 : Blk w (W.heap.size + 1 + 1) 24 #[.string op, .string nm, .int .i64 q, v, .int .i64 a]
  own : OwnL (kEx n) 24 5 (W.heap.size + 1 + 1 + 1) w v l
/-- Behind the append, ahead of the store. -/
structure XA (W : World) (op nm : ByteArray) (q a : Int) (n : Nat) (l : List Ex) (v v' : Value) (w : World) : Prop where
  low : Below W.heap.size W w
  b2 : Blk w (W.heap.size + 1) 24 #[.string ⟨#[]⟩, .string ⟨#[]⟩, .int .i64 0, .slice none 0 0, .int .i64 0]
  b3 : Blk w (W.heap.size + 1 + 1) 24 #[.string op, .string nm, .int .i64 q, v, .int .i64 a]
  own : OwnL (kEx n) 24 5 (W.heap.size + 1 + 1 + 1) w v' l
section
variable {W w w' : World} {op nm : ByteArray} {q a : Int} {n : Nat} {l : List Ex} {v : Value}
theorem XI.below (h : XI W op nm q a n l v w) (hb : Below w.heap.size w w') : XI W op nm q a n l v w' := ⟨thru h.low hb, h.b2.below hb h.b2.lt, h.b3.below hb h.b3.lt, h.own.below hb⟩
theorem XI.base (h : XI W op nm q a n l v w) : W.heap.size + 1 + 1 + 1 ≤ w.heap.size := h.b3.lt
theorem XI.more {x : Ex} {k : Nat} {L : List Ex} {v' : Value} {cs : List Value} {css : List (List Value)} (h : XI W op nm q a n (L.take k) v w) (hx : L[k]? = some x) (h1 : css.length = (L.take k).length)
    (h3 : ∀ (i : Nat) (x : Ex) (cs : List Value), (L.take k)[i]? = some x → css[i]? = some cs → cs.length = 5 ∧ (kEx n).good (fun b => W.heap.size + 1 + 1 + 1 ≤ b ∧ b < w.heap.size ∧ v.ownBlock ≠ some b) w x cs)
    (h2 : w.ownsRow (W.heap.size + 1 + 1 + 1) 24 5 v k css.flatten)
    (ho : w'.ownsRow (W.heap.size + 1 + 1 + 1) 24 5 v' (k + 1) (css.flatten ++ cs)) (hg : w.grownBy w' v.ownBlock) (hv : v'.ownBlock = v.ownBlock ∨ v'.ownBlock = some w.heap.size)
    (hc : cs.length = 5 ∧ (kEx n).good (fun b => W.heap.size + 1 + 1 + 1 ≤ b ∧ b < w.heap.size ∧ v.ownBlock ≠ some b) w x cs) :
    XA W op nm q a n (L.take (k + 1)) v v' w' := by
  have hk : k < L.length := (List.getElem?_eq_some_iff.1 hx).1
  have hlen : (L.take k).length = k := by rw [List.length_take]; omega
  refine ⟨Below.grown h.low hg h.low.size (fun g e => by have := (h2.lt g e).1; omega), h.b2.grown hg (fun e => by have := (h2.lt _ e.symm).1; omega), h.b3.grown hg (fun e => by have := (h2.lt _ e.symm).1; omega), ?_⟩
  rw [take_one hx]
  exact OwnL.more h1 h3 (by rw [hlen]; exact ho) hg hv hc.1 hc.2
theorem OwnL.kept_ {α : Type} {κ : Kind α} {T : TypeId} {k base : Nat} {l : List α} (h : OwnL κ T k base w v l) (hk : ∀ b, base ≤ b → w'.heap[b]? = w.heap[b]?) (hs : w.heap.size ≤ w'.heap.size) : OwnL κ T k base w' v l := by
  obtain ⟨css, h1, h2, h3⟩ := h
  refine ⟨css, h1, ⟨h2.1, ?_⟩, fun i x cs hx hc => ⟨(h3 i x cs hx hc).1, κ.mono (fun b q => ⟨q.1, Nat.lt_of_lt_of_le q.2.1 hs, q.2.2⟩) (κ.kept (fun b q => hk b q.1) (h3 i x cs hx hc).2)⟩⟩
  rcases h2.2 with q | ⟨g, cap, cur, e1, e2, e3, r⟩
  · exact .inl q
  · exact .inr ⟨g, cap, cur, e1, e2, (hk g e2).trans e3, r⟩
theorem OwnL.set_ {α : Type} {κ : Kind α} {T : TypeId} {k base : Nat} {l : List α} (h : OwnL κ T k base w v l) (p : Addr) (u : Value) (hp : p.block < base) : OwnL κ T k base (w.setCell p u) v l :=
  h.kept_ (fun b hb => Below.heap_setCell _ _ _ _ (Nat.ne_of_gt (Nat.lt_of_lt_of_le hp hb))) (by simp [World.setCell])
theorem XA.put {v' : Value} (h : XA W op nm q a n l v v' w) : XI W op nm q a n l v' (w.setCell ⟨W.heap.size + 1 + 1, 3, none⟩ v') :=
  ⟨h.low.setCell (p := ⟨W.heap.size + 1 + 1, 3, none⟩) (Nat.le_trans (Nat.le_succ _) (Nat.le_succ _)) _, h.b2.far (Nat.ne_of_lt (Nat.lt_succ_self _)) _, h.b3.set_ 3 _, h.own.kept_ (fun b hb => Below.heap_setCell _ _ _ _ (Nat.ne_of_gt hb)) (by simp [World.setCell])⟩
theorem xi_new (W : World) (op nm : ByteArray) (q a : Int) (n : Nat) (o : Obj) : XI W op nm q a n [] (.slice none 0 0) (((W.alloc o).alloc (.cells #[.string ⟨#[]⟩, .string ⟨#[]⟩, .int .i64 0, .slice none 0 0, .int .i64 0] 24)).alloc (.cells #[.string op, .string nm, .int .i64 q, .slice none 0 0, .int .i64 a] 24)) := by
  have b1 : Below W.heap.size W (W.alloc o) := (Below.refl _ _).alloc (Nat.le_refl _) _
  have k2 := Blk.new (W.alloc o) 24 #[.string ⟨#[]⟩, .string ⟨#[]⟩, .int .i64 0, .slice none 0 0, .int .i64 0]
  have b2 : Below (W.alloc o).heap.size (W.alloc o) ((W.alloc o).alloc (.cells #[.string ⟨#[]⟩, .string ⟨#[]⟩, .int .i64 0, .slice none 0 0, .int .i64 0] 24)) := (Below.refl _ _).alloc (Nat.le_refl _) _
  have k3 := Blk.new ((W.alloc o).alloc (.cells #[.string ⟨#[]⟩, .string ⟨#[]⟩, .int .i64 0, .slice none 0 0, .int .i64 0] 24)) 24 #[.string op, .string nm, .int .i64 q, .slice none 0 0, .int .i64 a]
  have b3 : Below ((W.alloc o).alloc (.cells #[.string ⟨#[]⟩, .string ⟨#[]⟩, .int .i64 0, .slice none 0 0, .int .i64 0] 24)).heap.size ((W.alloc o).alloc (.cells #[.string ⟨#[]⟩, .string ⟨#[]⟩, .int .i64 0, .slice none 0 0, .int .i64 0] 24)) (((W.alloc o).alloc (.cells #[.string ⟨#[]⟩, .string ⟨#[]⟩, .int .i64 0, .slice none 0 0, .int .i64 0] 24)).alloc (.cells #[.string op, .string nm, .int .i64 q, .slice none 0 0, .int .i64 a] 24)) := (Below.refl _ _).alloc (Nat.le_refl _) _
  have k2' := k2.below b3 k2.lt
  simp only [World.size_alloc] at k2' k3
  exact ⟨thru (thru b1 b2) b3, k2', k3, OwnL.nil _ _⟩
/-- What Expr tells. -/
def RetEx (op nm : ByteArray) (q a : Int) (n : Nat) (l : List Ex) (W : World) (e : Ending) (w' : World) : Prop :=
  ∃ v, e = .returned (exV op nm q v a) ∧ ExR (fun b => W.heap.size ≤ b ∧ b < w'.heap.size) n w' l v ∧ Below W.heap.size W w'
end
end Go.Proofs.YteaongdlbleehaaDoor

/- The tree layer: the law's Stmts: the program's statements, of the document's. -/
namespace Go.Proofs.YteaongdlbleehaaDoor
open Go.RowKit
attribute [local go_sem ↓] Go.wp_at_zero Go.wp_at_succ
theorem tinfo : (Tryd.prog.info? 96).map (fun i => (i.zero, i.size, i.bytes)) = some (some (.agg #[.string ⟨#[]⟩, .string ⟨#[]⟩, .slice none 0 0, .slice none 0 0, .slice none 0 0, .int .i64 0]), 6, 112) := by kernel_rfl
theorem news_six {w : World} {g : Nat} {t : TypeId} {a b c d e f : Value} (h : Blk w g t #[a, b, c, d, e, f]) : ∀ (j : Nat) (u : Value), [a, b, c, d, e, f][j]? = some u → w.cell? ((⟨g, 0, none⟩ : Addr).add j) = some u := fun j u hu => by
  rw [Addr.add_lit, Nat.zero_add]
  exact (h.cell j).trans (by simpa using hu)
theorem one_six (a b : ByteArray) (A A1 A2 : Option Addr) (n n1 n2 cap cap1 cap2 : Nat) (d : Int) : ∀ u ∈ [Value.string a, Value.string b, Value.slice A n cap, Value.slice A1 n1 cap1, Value.slice A2 n2 cap2, Value.int .i64 d], u.oneCell' = true := by
  intro u hu
  simp at hu
  rcases hu with rfl | rfl | rfl | rfl | rfl | rfl <;> rfl
/-- While a statement is made: its box, its two rows, the row of its expressions so far. -/
structure SI (W1 : World) (p H : Nat) (op nm : ByteArray) (LA LB : Value) (a : Int) (n m : Nat) (xA xB : List St) (l : List Ex) (v : Value) (w : World) : Prop where
  low : Below W1.heap.size W1 w
  p1 : W1.heap.size ≤ p
  pH : p < H
  hs : H ≤ w.heap.size
  b6 : Blk w p 96 #[.string op, .string nm, v, LA, LB, .int .i64 a]
  rA : StR (fun b => W1.heap.size ≤ b ∧ b < H ∧ b ≠ p) n w xA LA
  rB : StR (fun b => W1.heap.size ≤ b ∧ b < H ∧ b ≠ p) n w xB LB
  own : OwnL (kEx m) 24 5 H w v l
/-- Behind the append, ahead of the store. -/
structure SB (W1 : World) (p H : Nat) (op nm : ByteArray) (LA LB : Value) (a : Int) (n m : Nat) (xA xB : List St) (l : List Ex) (v v' : Value) (w : World) : Prop where
  low : Below W1.heap.size W1 w
  p1 : W1.heap.size ≤ p
  pH : p < H
  hs : H ≤ w.heap.size
  b6 : Blk w p 96 #[.string op, .string nm, v, LA, LB, .int .i64 a]
  rA : StR (fun b => W1.heap.size ≤ b ∧ b < H ∧ b ≠ p) n w xA LA
  rB : StR (fun b => W1.heap.size ≤ b ∧ b < H ∧ b ≠ p) n w xB LB
  own : OwnL (kEx m) 24 5 H w v' l
section
variable {W1 w w' : World} {p H : Nat} {op nm : ByteArray} {LA LB : Value} {a : Int} {n m : Nat} {xA xB : List St} {l : List Ex} {v : Value}
theorem SI.below (h : SI W1 p H op nm LA LB a n m xA xB l v w) (hb : Below w.heap.size w w') : SI W1 p H op nm LA LB a n m xA xB l v w' :=
  ⟨thru h.low hb, h.p1, h.pH, Nat.le_trans h.hs hb.size, h.b6.below hb h.b6.lt, h.rA.below hb (fun _ q => Nat.lt_of_lt_of_le q.2.1 h.hs), h.rB.below hb (fun _ q => Nat.lt_of_lt_of_le q.2.1 h.hs), h.own.below hb⟩
theorem SI.more {y : Ex} {k : Nat} {L : List Ex} {v' : Value} {cs : List Value} {css : List (List Value)} (h : SI W1 p H op nm LA LB a n m xA xB (L.take k) v w) (hx : L[k]? = some y) (h1 : css.length = (L.take k).length)
    (h3 : ∀ (i : Nat) (x : Ex) (cs : List Value), (L.take k)[i]? = some x → css[i]? = some cs → cs.length = 5 ∧ (kEx m).good (fun b => H ≤ b ∧ b < w.heap.size ∧ v.ownBlock ≠ some b) w x cs)
    (h2 : w.ownsRow H 24 5 v k css.flatten)
    (ho : w'.ownsRow H 24 5 v' (k + 1) (css.flatten ++ cs)) (hg : w.grownBy w' v.ownBlock) (hv : v'.ownBlock = v.ownBlock ∨ v'.ownBlock = some w.heap.size)
    (hc : cs.length = 5 ∧ (kEx m).good (fun b => H ≤ b ∧ b < w.heap.size ∧ v.ownBlock ≠ some b) w y cs) :
    SB W1 p H op nm LA LB a n m xA xB (L.take (k + 1)) v v' w' := by
  have hk : k < L.length := (List.getElem?_eq_some_iff.1 hx).1
  have hlen : (L.take k).length = k := by rw [List.length_take]; omega
  have hp1 := h.p1
  have hpH := h.pH
  have hhs := h.hs
  have hne : ∀ b, b < H → some b ≠ v.ownBlock := fun b hb e => by have := (h2.lt b e.symm).1; omega
  refine ⟨Below.grown h.low hg h.low.size (fun g e => by have := (h2.lt g e).1; omega), h.p1, h.pH, Nat.le_trans h.hs hg.size, h.b6.grown hg (hne p h.pH), h.rA.kept (fun b q => hg.block b (Nat.lt_of_lt_of_le q.2.1 h.hs) (hne b q.2.1)), h.rB.kept (fun b q => hg.block b (Nat.lt_of_lt_of_le q.2.1 h.hs) (hne b q.2.1)), ?_⟩
  rw [take_one hx]
  exact OwnL.more h1 h3 (by rw [hlen]; exact ho) hg hv hc.1 hc.2
theorem SB.put {v' : Value} (h : SB W1 p H op nm LA LB a n m xA xB l v v' w) : SI W1 p H op nm LA LB a n m xA xB l v' (w.setCell ⟨p, 2, none⟩ v') :=
  ⟨h.low.setCell (p := ⟨p, 2, none⟩) h.p1 _, h.p1, h.pH, by simpa [World.setCell] using h.hs, h.b6.set_ 2 _, h.rA.kept (fun b q => Below.heap_setCell _ _ _ _ q.2.2), h.rB.kept (fun b q => Below.heap_setCell _ _ _ _ q.2.2), h.own.set_ ⟨p, 2, none⟩ _ h.pH⟩
/-- Behind the six stores into a new box. -/
theorem si_start (hb : Below W1.heap.size W1 w) (h1 : W1.heap.size ≤ p) (h2 : p < w.heap.size) (hz : Blk w p 96 #[.string ⟨#[]⟩, .string ⟨#[]⟩, .slice none 0 0, .slice none 0 0, .slice none 0 0, .int .i64 0])
    (hA : StR (fun b => W1.heap.size ≤ b ∧ b < w.heap.size ∧ b ≠ p) n w xA LA) (hB : StR (fun b => W1.heap.size ≤ b ∧ b < w.heap.size ∧ b ≠ p) n w xB LB) (m : Nat) :
    SI W1 p w.heap.size op nm LA LB a n m xA xB [] (.slice none 0 0) ((((((w.setCell ⟨p, 0, none⟩ (.string op)).setCell ⟨p, 1, none⟩ (.string nm)).setCell ⟨p, 2, none⟩ (.slice none 0 0)).setCell ⟨p, 3, none⟩ LA).setCell ⟨p, 4, none⟩ LB).setCell ⟨p, 5, none⟩ (.int .i64 a)) := by
  have hk : ∀ b, b ≠ p → ((((((w.setCell ⟨p, 0, none⟩ (.string op)).setCell ⟨p, 1, none⟩ (.string nm)).setCell ⟨p, 2, none⟩ (.slice none 0 0)).setCell ⟨p, 3, none⟩ LA).setCell ⟨p, 4, none⟩ LB).setCell ⟨p, 5, none⟩ (.int .i64 a)).heap[b]? = w.heap[b]? := fun b hb => by
    rw [Below.heap_setCell _ _ _ _ hb, Below.heap_setCell _ _ _ _ hb, Below.heap_setCell _ _ _ _ hb, Below.heap_setCell _ _ _ _ hb, Below.heap_setCell _ _ _ _ hb, Below.heap_setCell _ _ _ _ hb]
  exact ⟨(((((hb.setCell (p := ⟨p, 0, none⟩) h1 _).setCell (p := ⟨p, 1, none⟩) h1 _).setCell (p := ⟨p, 2, none⟩) h1 _).setCell (p := ⟨p, 3, none⟩) h1 _).setCell (p := ⟨p, 4, none⟩) h1 _).setCell (p := ⟨p, 5, none⟩) h1 _, h1, h2, by simp [World.setCell],
    (((((hz.set_ 0 _).set_ 1 _).set_ 2 _).set_ 3 _).set_ 4 _).set_ 5 _, hA.kept (fun b q => hk b q.2.2), hB.kept (fun b q => hk b q.2.2), OwnL.nil _ _⟩
end
/-- What Stmts tells. -/
def RetSt (n : Nat) (l : List St) (W : World) (e : Ending) (w' : World) : Prop :=
  ∃ v, e = .returned v ∧ StR (fun b => W.heap.size ≤ b ∧ b < w'.heap.size) n w' l v ∧ Below W.heap.size W w'
def CutS (W1 : World) (n n' : Nat) (x : St) (t6 : Value) (wx : World) : Prop :=
  ∃ pz H Aa2 ca2 Ab2 cb2, t6 = .pointer (some ⟨pz, 0, none⟩) ∧ SI W1 pz H x.op x.nm (.slice Aa2 x.A.length ca2) (.slice Ab2 x.B.length cb2) x.a n n' x.A x.B [] (.slice none 0 0) wx
end Go.Proofs.YteaongdlbleehaaDoor

/- The tree layer: what is the same: expressions, statements. -/
namespace Go.Proofs.YteaongdlbleehaaDoor
open Go.RowKit
theorem ret_bool {a b : Bool} (h : a = b) : Ending.returned (.bool a) = .returned (.bool b) := by rw [h]
/-- A fold over two rows side by side. -/
def sameF {α β : Type} (f : α → β → Bool) : List α → List β → Bool
  | [], [] => true
  | x :: r, y :: s => f x y && sameF f r s
  | _, _ => false
theorem sameF_len {α β : Type} (f : α → β → Bool) {l : List α} {r : List β} (h : l.length ≠ r.length) : sameF f l r = false := by
  induction l generalizing r with
  | nil => cases r with
    | nil => exact absurd rfl h
    | cons y r => rfl
  | cons x l ih => cases r with
    | nil => rfl
    | cons y r => simp only [sameF, ih (r := r) (fun e => h (by simp [e])), Bool.and_false]
theorem sameF_at {α β : Type} (f : α → β → Bool) {l : List α} {r : List β} {k : Nat} {x : α} {y : β} (hx : l[k]? = some x) (hy : r[k]? = some y) : sameF f (l.drop k) (r.drop k) = (f x y && sameF f (l.drop (k + 1)) (r.drop (k + 1))) := by
  obtain ⟨h1, e1⟩ := List.getElem?_eq_some_iff.1 hx
  obtain ⟨h2, e2⟩ := List.getElem?_eq_some_iff.1 hy
  rw [List.drop_eq_getElem_cons h1, List.drop_eq_getElem_cons h2, e1, e2]
  rfl
theorem sameL_F (l r : List Ex) : sameL l r = sameF sameE l r := by
  induction l generalizing r with
  | nil => cases r <;> rfl
  | cons x l ih => cases r with
    | nil => rfl
    | cons y r => simp only [sameL, sameF, ih]
theorem sameB_F (l r : List St) : sameB l r = sameF sameS l r := by
  induction l generalizing r with
  | nil => cases r <;> rfl
  | cons x l ih => cases r with
    | nil => rfl
    | cons y r => simp only [sameB, sameF, ih]
/-- Two expressions, by their parts. -/
def sameX (o nm : ByteArray) (k : Int) (l : List Ex) (o' nm' : ByteArray) (k' : Int) (l' : List Ex) : Bool := (o.toList == o'.toList) && ((nm.toList == nm'.toList) && ((k == k') && sameL l l'))
theorem sameE_X (x y : Ex) : sameE x y = sameX x.op x.nm x.n x.l y.op y.nm y.n y.l := by cases x; cases y; rfl
def sameSX (o nm : ByteArray) (e : List Ex) (A B : List St) (o' nm' : ByteArray) (e' : List Ex) (A' B' : List St) : Bool := (o.toList == o'.toList) && ((nm.toList == nm'.toList) && (sameL e e' && (sameB A A' && sameB B B')))
theorem sameS_X (x y : St) : sameS x y = sameSX x.op x.nm x.e x.A x.B y.op y.nm y.e y.A y.B := by cases x; cases y; rfl
section
variable {W : World}
end
end Go.Proofs.YteaongdlbleehaaDoor

/- The tree layer: programs as they lie in memory; how great they are; what is the same. -/
namespace Go.Proofs.YteaongdlbleehaaDoor
open Go.RowKit
/-- A row of texts. -/
def StrR (P : Nat → Prop) (w : World) (l : List ByteArray) (v : Value) : Prop :=
  ∃ A cap, v = .slice A l.length cap ∧ l.length ≤ cap ∧ l.length * 16 ≤ 140737488355328 ∧ ∀ (i : Nat) (x : ByteArray), l[i]? = some x → ∃ b off, A = some ⟨b, off, none⟩ ∧ P b ∧ w.cell? ⟨b, off + i, none⟩ = some (.string x)
/-- Rows of enums, variables, procedures. -/
def EnR (P : Nat → Prop) (w : World) (l : List (ByteArray × List ByteArray)) (v : Value) : Prop :=
  ∃ A cap, v = .slice A l.length cap ∧ l.length ≤ cap ∧ l.length * 40 ≤ 140737488355328 ∧ ∀ (i : Nat) (x : ByteArray × List ByteArray), l[i]? = some x → ∃ b off L, A = some ⟨b, off, none⟩ ∧ P b ∧ (w.cell? ⟨b, off + i * 2, none⟩ = some (.string x.1) ∧ w.cell? ⟨b, off + i * 2 + 1, none⟩ = some L) ∧ StrR P w x.2 L
def VaR (P : Nat → Prop) (w : World) (l : List (ByteArray × ByteArray × Int)) (v : Value) : Prop :=
  ∃ A cap, v = .slice A l.length cap ∧ l.length ≤ cap ∧ l.length * 40 ≤ 140737488355328 ∧ ∀ (i : Nat) (x : ByteArray × ByteArray × Int), l[i]? = some x → ∃ b off, A = some ⟨b, off, none⟩ ∧ P b ∧ (w.cell? ⟨b, off + i * 3, none⟩ = some (.string x.1) ∧ w.cell? ⟨b, off + i * 3 + 1, none⟩ = some (.string x.2.1) ∧ w.cell? ⟨b, off + i * 3 + 2, none⟩ = some (.int .i64 x.2.2)) ∧ In64 x.2.2
def PrR (P : Nat → Prop) (n : Nat) (w : World) (l : List (ByteArray × List St)) (v : Value) : Prop :=
  ∃ A cap, v = .slice A l.length cap ∧ l.length ≤ cap ∧ l.length * 40 ≤ 140737488355328 ∧ ∀ (i : Nat) (x : ByteArray × List St), l[i]? = some x → ∃ b off L, A = some ⟨b, off, none⟩ ∧ P b ∧ (w.cell? ⟨b, off + i * 2, none⟩ = some (.string x.1) ∧ w.cell? ⟨b, off + i * 2 + 1, none⟩ = some L) ∧ StR P n w x.2 L
abbrev pgV (vE vV vP vM : Value) : Value := .agg #[vE, vV, vP, vM]
/-- A program. -/
structure PgR (P : Nat → Prop) (n : Nat) (w : World) (p : Pg) (vE vV vP vM : Value) : Prop where
  en : EnR P w p.enums vE
  va : VaR P w p.vars vV
  pr : PrR P n w p.procs vP
  mn : StR P n w p.main vM
section
variable {P P' : Nat → Prop} {n B : Nat} {w w' : World} {v : Value}
theorem keep2 {b o : Nat} {x y : Value} (h : w.cell? ⟨b, o, none⟩ = some x ∧ w.cell? ⟨b, o + 1, none⟩ = some y) (hk : w'.heap[b]? = w.heap[b]?) : w'.cell? ⟨b, o, none⟩ = some x ∧ w'.cell? ⟨b, o + 1, none⟩ = some y := by
  have q : ∀ o, w'.cell? ⟨b, o, none⟩ = w.cell? ⟨b, o, none⟩ := fun o => World.cell?_of_block hk
  rw [q, q]; exact h
theorem keep3 {b o : Nat} {x y z : Value} (h : w.cell? ⟨b, o, none⟩ = some x ∧ w.cell? ⟨b, o + 1, none⟩ = some y ∧ w.cell? ⟨b, o + 2, none⟩ = some z) (hk : w'.heap[b]? = w.heap[b]?) : w'.cell? ⟨b, o, none⟩ = some x ∧ w'.cell? ⟨b, o + 1, none⟩ = some y ∧ w'.cell? ⟨b, o + 2, none⟩ = some z := by
  have q : ∀ o, w'.cell? ⟨b, o, none⟩ = w.cell? ⟨b, o, none⟩ := fun o => World.cell?_of_block hk
  rw [q, q, q]; exact h
theorem StrR.kept {l : List ByteArray} (h : StrR P w l v) (hk : ∀ b, P b → w'.heap[b]? = w.heap[b]?) : StrR P w' l v := by
  obtain ⟨A, cap, h1, h2, h3, h4⟩ := h
  refine ⟨A, cap, h1, h2, h3, fun i x hx => ?_⟩
  obtain ⟨b, off, e1, e2, e3⟩ := h4 i x hx
  exact ⟨b, off, e1, e2, (World.cell?_of_block (a := ⟨b, off + i, none⟩) (hk b e2)).trans e3⟩
theorem StrR.wide {l : List ByteArray} (hP : ∀ b, P b → P' b) (h : StrR P w l v) : StrR P' w l v := by
  obtain ⟨A, cap, h1, h2, h3, h4⟩ := h
  refine ⟨A, cap, h1, h2, h3, fun i x hx => ?_⟩
  obtain ⟨b, off, e1, e2, e3⟩ := h4 i x hx
  exact ⟨b, off, e1, hP b e2, e3⟩
theorem EnR.kept {l : List (ByteArray × List ByteArray)} (h : EnR P w l v) (hk : ∀ b, P b → w'.heap[b]? = w.heap[b]?) : EnR P w' l v := by
  obtain ⟨A, cap, h1, h2, h3, h4⟩ := h
  refine ⟨A, cap, h1, h2, h3, fun i x hx => ?_⟩
  obtain ⟨b, off, L, e1, e2, e3, e4⟩ := h4 i x hx
  exact ⟨b, off, L, e1, e2, keep2 e3 (hk b e2), e4.kept hk⟩
theorem EnR.wide {l : List (ByteArray × List ByteArray)} (hP : ∀ b, P b → P' b) (h : EnR P w l v) : EnR P' w l v := by
  obtain ⟨A, cap, h1, h2, h3, h4⟩ := h
  refine ⟨A, cap, h1, h2, h3, fun i x hx => ?_⟩
  obtain ⟨b, off, L, e1, e2, e3, e4⟩ := h4 i x hx
  exact ⟨b, off, L, e1, hP b e2, e3, e4.wide hP⟩
theorem VaR.kept {l : List (ByteArray × ByteArray × Int)} (h : VaR P w l v) (hk : ∀ b, P b → w'.heap[b]? = w.heap[b]?) : VaR P w' l v := by
  obtain ⟨A, cap, h1, h2, h3, h4⟩ := h
  refine ⟨A, cap, h1, h2, h3, fun i x hx => ?_⟩
  obtain ⟨b, off, e1, e2, e3, e4⟩ := h4 i x hx
  exact ⟨b, off, e1, e2, keep3 e3 (hk b e2), e4⟩
theorem VaR.wide {l : List (ByteArray × ByteArray × Int)} (hP : ∀ b, P b → P' b) (h : VaR P w l v) : VaR P' w l v := by
  obtain ⟨A, cap, h1, h2, h3, h4⟩ := h
  refine ⟨A, cap, h1, h2, h3, fun i x hx => ?_⟩
  obtain ⟨b, off, e1, e2, e3, e4⟩ := h4 i x hx
  exact ⟨b, off, e1, hP b e2, e3, e4⟩
theorem PrR.kept {l : List (ByteArray × List St)} (h : PrR P n w l v) (hk : ∀ b, P b → w'.heap[b]? = w.heap[b]?) : PrR P n w' l v := by
  obtain ⟨A, cap, h1, h2, h3, h4⟩ := h
  refine ⟨A, cap, h1, h2, h3, fun i x hx => ?_⟩
  obtain ⟨b, off, L, e1, e2, e3, e4⟩ := h4 i x hx
  exact ⟨b, off, L, e1, e2, keep2 e3 (hk b e2), e4.kept hk⟩
theorem PrR.wide {l : List (ByteArray × List St)} (hP : ∀ b, P b → P' b) (h : PrR P n w l v) : PrR P' n w l v := by
  obtain ⟨A, cap, h1, h2, h3, h4⟩ := h
  refine ⟨A, cap, h1, h2, h3, fun i x hx => ?_⟩
  obtain ⟨b, off, L, e1, e2, e3, e4⟩ := h4 i x hx
  exact ⟨b, off, L, e1, hP b e2, e3, e4.wide hP⟩
theorem PrR.le {m : Nat} (hm : n ≤ m) {l : List (ByteArray × List St)} (h : PrR P n w l v) : PrR P m w l v := by
  obtain ⟨A, cap, h1, h2, h3, h4⟩ := h
  refine ⟨A, cap, h1, h2, h3, fun i x hx => ?_⟩
  obtain ⟨b, off, L, e1, e2, e3, e4⟩ := h4 i x hx
  exact ⟨b, off, L, e1, e2, e3, e4.le hm⟩
theorem StrR.slice {l : List ByteArray} (h : StrR P w l v) : ∃ A cap, v = .slice A l.length cap ∧ l.length ≤ cap ∧ l.length * 16 ≤ 140737488355328 := by
  obtain ⟨A, cap, h1, h2, h3, -⟩ := h; exact ⟨A, cap, h1, h2, h3⟩
theorem EnR.slice {l : List (ByteArray × List ByteArray)} (h : EnR P w l v) : ∃ A cap, v = .slice A l.length cap ∧ l.length ≤ cap ∧ l.length * 40 ≤ 140737488355328 := by
  obtain ⟨A, cap, h1, h2, h3, -⟩ := h; exact ⟨A, cap, h1, h2, h3⟩
theorem VaR.slice {l : List (ByteArray × ByteArray × Int)} (h : VaR P w l v) : ∃ A cap, v = .slice A l.length cap ∧ l.length ≤ cap ∧ l.length * 40 ≤ 140737488355328 := by
  obtain ⟨A, cap, h1, h2, h3, -⟩ := h; exact ⟨A, cap, h1, h2, h3⟩
theorem PrR.slice {l : List (ByteArray × List St)} (h : PrR P n w l v) : ∃ A cap, v = .slice A l.length cap ∧ l.length ≤ cap ∧ l.length * 40 ≤ 140737488355328 := by
  obtain ⟨A, cap, h1, h2, h3, -⟩ := h; exact ⟨A, cap, h1, h2, h3⟩
variable {p : Pg} {vE vV vP vM : Value}
theorem PgR.kept (h : PgR P n w p vE vV vP vM) (hk : ∀ b, P b → w'.heap[b]? = w.heap[b]?) : PgR P n w' p vE vV vP vM := ⟨h.en.kept hk, h.va.kept hk, h.pr.kept hk, h.mn.kept hk⟩
theorem PgR.wide (hP : ∀ b, P b → P' b) (h : PgR P n w p vE vV vP vM) : PgR P' n w p vE vV vP vM := ⟨h.en.wide hP, h.va.wide hP, h.pr.wide hP, h.mn.wide hP⟩
theorem PgR.below (h : PgR P n w p vE vV vP vM) (hb : Below B w w') (hP : ∀ b, P b → b < B) : PgR P n w' p vE vV vP vM := h.kept fun b q => hb.block b (hP b q)
theorem PgR.le {m : Nat} (hm : n ≤ m) (h : PgR P n w p vE vV vP vM) : PgR P m w p vE vV vP vM := ⟨h.en, h.va, h.pr.le hm, h.mn.le hm⟩
end
/-! ### The same -/
def sameVr (a b : ByteArray × ByteArray × Int) : Bool := (a.1.toList == b.1.toList) && ((a.2.1.toList == b.2.1.toList) && (a.2.2 == b.2.2))
def sameSt (a b : ByteArray) : Bool := a.toList == b.toList
def sameEn (a b : ByteArray × List ByteArray) : Bool := (a.1.toList == b.1.toList) && sameF sameSt a.2 b.2
def samePr (a b : ByteArray × List St) : Bool := (a.1.toList == b.1.toList) && sameB a.2 b.2
def samePg (p q : Pg) : Bool := sameF sameEn p.enums q.enums && (sameF sameVr p.vars q.vars && (sameF samePr p.procs q.procs && sameB p.main q.main))
theorem guardV : Tryd.prog.eqGuardType Tryd.prog.depth 68 = false := by kernel_rfl
theorem heldV : Tryd.prog.stoodInHeld 68 = false := by kernel_rfl
theorem neVr (x y x' y' : ByteArray) (k k' : Int) (w : World) : (binOp .neq 68 (.agg #[.string x, .string y, .int .i64 k]) (.agg #[.string x', .string y', .int .i64 k'])).run Tryd.prog w = .ok (.bool (!sameVr (x, y, k) (x', y', k'))) w := by
  rw [run_neq_struct]
  have : (Op.equalIn 10000 68 (.agg #[.string x, .string y, .int .i64 k]) (.agg #[.string x', .string y', .int .i64 k'])).run Tryd.prog w = .ok (sameVr (x, y, k) (x', y', k')) w := by
    rw [run_equalIn_struct w 9999 68 _ _ (by unfold Program.fieldsOf; rw [Tryd.underlying68]) heldV]
    unfold sameVr
    cases h1 : (x.toList == x'.toList) <;> cases h2 : (y.toList == y'.toList) <;> cases h3 : (k == k') <;> simp [Program.fieldsOf, Tryd.underlying68, Op.eqFields, part, go_sem, h1, h2, h3, Tryd.underlying3, Tryd.underlying9]
  rw [this]; rfl
theorem eqgV (op : BinOp) (x y : Operand) (xs ys : Array Value) (w : World) : (eqGuard op 68 x y (.agg xs) (.agg ys)).run Tryd.prog w = .ok () w := run_eqGuard_agg w op 68 x y xs ys guardV
attribute [local go_sem ↓] neVr eqgV
section
variable {W : World}
end
end Go.Proofs.YteaongdlbleehaaDoor

/- The tree layer: enums, procedures, programs: what is the same. -/
namespace Go.Proofs.YteaongdlbleehaaDoor
open Go.RowKit
section
variable {W : World}
end
end Go.Proofs.YteaongdlbleehaaDoor
