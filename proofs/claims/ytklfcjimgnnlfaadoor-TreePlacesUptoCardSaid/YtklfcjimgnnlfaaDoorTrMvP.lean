/- The tree layer: a program that stood elsewhere: it is the same, as deep, and printed alike. -/
import Derived.Test.YtklfcjimgnnlfaaDoorTrMovedS
import Derived.Test.YtklfcjimgnnlfaaDoorTrProgS
import Derived.Test.YtklfcjimgnnlfaaDoorTrBoundP
import Derived.Test.YtklfcjimgnnlfaaDoorTrBoundB
namespace Go.Proofs.YtklfcjimgnnlfaaDoor
open Go.RowKit
def mvQ (d : Int) (x : ByteArray × List St) : ByteArray × List St := (x.1, mvB d x.2)
def mvP (d : Int) (p : Pg) : Pg := ⟨p.enums, p.vars, p.procs.map (mvQ d), mvB d p.main⟩
theorem mvB_deep (d : Int) : (∀ x : St, depS (mvS d x) = depS x) ∧ ∀ l : List St, depB (mvB d l) = depB l := by
  have key : ∀ n, (∀ x : St, szS x ≤ n → depS (mvS d x) = depS x) ∧ ∀ l : List St, szB l ≤ n → depB (mvB d l) = depB l := by
    intro n
    induction n with
    | zero =>
      have hx : ∀ x : St, ¬ szS x ≤ 0 := fun x => by cases x; simp only [szS]; omega
      refine ⟨fun x h => absurd h (hx x), fun l h => ?_⟩
      cases l with
      | nil => rfl
      | cons x l => exact absurd (show szS x ≤ 0 by simp only [szB] at h; omega) (hx x)
    | succ n ih =>
      have hx : ∀ x : St, szS x ≤ n + 1 → depS (mvS d x) = depS x := fun x h => by
        cases x with
        | mk o nm e A B a =>
          simp only [szS] at h
          simp only [mvS, depS, ih.2 A (by omega), ih.2 B (by omega)]
      refine ⟨hx, fun l => ?_⟩
      induction l with
      | nil => intro _; rfl
      | cons x l ihl =>
        intro h
        simp only [szB] at h
        simp only [mvB, depB, hx x (by omega), ihl (by omega)]
  exact ⟨fun x => (key _).1 x (Nat.le_refl _), fun l => (key _).2 l (Nat.le_refl _)⟩
theorem same_reflL : (∀ x : Ex, sameE x x = true) ∧ ∀ l : List Ex, sameL l l = true := by
  have key : ∀ n, (∀ x : Ex, szE x ≤ n → sameE x x = true) ∧ ∀ l : List Ex, szL l ≤ n → sameL l l = true := by
    intro n
    induction n with
    | zero =>
      have hx : ∀ x : Ex, ¬ szE x ≤ 0 := fun x => by cases x; simp only [szE]; omega
      refine ⟨fun x h => absurd h (hx x), fun l h => ?_⟩
      cases l with
      | nil => rfl
      | cons x l => exact absurd (show szE x ≤ 0 by simp only [szL] at h; omega) (hx x)
    | succ n ih =>
      have hx : ∀ x : Ex, szE x ≤ n + 1 → sameE x x = true := fun x h => by
        cases x with
        | mk o nm k l a =>
          simp only [szE] at h
          simp only [sameE, ih.2 l (by omega), beq_self_eq_true, Bool.and_self]
      refine ⟨hx, fun l => ?_⟩
      induction l with
      | nil => intro _; rfl
      | cons x l ihl =>
        intro h
        simp only [szL] at h
        simp only [sameL, hx x (by omega), ihl (by omega), Bool.and_self]
  exact ⟨fun x => (key _).1 x (Nat.le_refl _), fun l => (key _).2 l (Nat.le_refl _)⟩
theorem same_reflB : (∀ x : St, sameS x x = true) ∧ ∀ l : List St, sameB l l = true := by
  have key : ∀ n, (∀ x : St, szS x ≤ n → sameS x x = true) ∧ ∀ l : List St, szB l ≤ n → sameB l l = true := by
    intro n
    induction n with
    | zero =>
      have hx : ∀ x : St, ¬ szS x ≤ 0 := fun x => by cases x; simp only [szS]; omega
      refine ⟨fun x h => absurd h (hx x), fun l h => ?_⟩
      cases l with
      | nil => rfl
      | cons x l => exact absurd (show szS x ≤ 0 by simp only [szB] at h; omega) (hx x)
    | succ n ih =>
      have hx : ∀ x : St, szS x ≤ n + 1 → sameS x x = true := fun x h => by
        cases x with
        | mk o nm e A B a =>
          simp only [szS] at h
          simp only [sameS, same_reflL.2 e, ih.2 A (by omega), ih.2 B (by omega), beq_self_eq_true, Bool.and_self]
      refine ⟨hx, fun l => ?_⟩
      induction l with
      | nil => intro _; rfl
      | cons x l ihl =>
        intro h
        simp only [szB] at h
        simp only [sameB, hx x (by omega), ihl (by omega), Bool.and_self]
  exact ⟨fun x => (key _).1 x (Nat.le_refl _), fun l => (key _).2 l (Nat.le_refl _)⟩
theorem sameF_map {α β : Type} (f : α → β → Bool) (g : α → β) (h : ∀ x, f x (g x) = true) (l : List α) : sameF f l (l.map g) = true := by
  induction l with
  | nil => rfl
  | cons x l ih => simp only [List.map_cons, sameF, h, ih, Bool.and_self]
theorem sameF_refl {α : Type} (f : α → α → Bool) (h : ∀ x, f x x = true) (l : List α) : sameF f l l = true := by
  have := sameF_map f id h l
  rwa [List.map_id] at this
theorem sameSt_refl (x : ByteArray) : sameSt x x = true := beq_self_eq_true _
theorem sameEn_refl (x : ByteArray × List ByteArray) : sameEn x x = true := by
  unfold sameEn
  rw [sameF_refl sameSt sameSt_refl, beq_self_eq_true]; rfl
theorem sameVr_refl (x : ByteArray × ByteArray × Int) : sameVr x x = true := by
  unfold sameVr
  simp only [beq_self_eq_true, Bool.and_self]
theorem samePg_refl (p : Pg) : samePg p p = true := by
  unfold samePg
  rw [sameF_refl sameEn sameEn_refl, sameF_refl sameVr sameVr_refl, sameF_refl samePr (fun x => by unfold samePr; rw [beq_self_eq_true, same_reflB.2]; rfl), same_reflB.2]; rfl
theorem samePg_mv (d : Int) (p : Pg) : samePg p (mvP d p) = true := by
  unfold samePg mvP
  rw [sameF_refl sameEn sameEn_refl, sameF_refl sameVr sameVr_refl, sameF_map samePr (mvQ d) (fun x => by unfold samePr mvQ; rw [beq_self_eq_true, (mvB_same d).2]; rfl), (mvB_same d).2]; rfl
theorem print_mv (d : Int) (p : Pg) : printF Lib.itoa (mvP d p) = printF Lib.itoa p := by
  unfold printF mvP
  rw [List.flatMap_map]
  have e1 : (fun x => procF Lib.itoa (mvQ d x)) = procF Lib.itoa := funext fun x => by
    unfold procF mvQ
    rw [same_rows.2 _ _ ((mvB_same d).2 x.2) 1]
  rw [e1, same_rows.2 _ _ ((mvB_same d).2 p.main) 1]
theorem deep_mv (d : Int) {p : Pg} {n : Nat} (h : depB p.main ≤ n ∧ ∀ q ∈ p.procs, depB q.2 ≤ n) : depB (mvP d p).main ≤ n ∧ ∀ q ∈ (mvP d p).procs, depB q.2 ≤ n := by
  refine ⟨by rw [mvP, (mvB_deep d).2]; exact h.1, fun q hq => ?_⟩
  obtain ⟨x, hx, rfl⟩ := List.mem_map.1 hq
  rw [mvQ, (mvB_deep d).2]
  exact h.2 x hx
/-- While the moved program is made: its box, its main, the row of its procedures so far. -/
structure YI (W2 : World) (pz H n : Nat) (a1 a2 bP aM : Value) (lM : List St) (l : List (ByteArray × List St)) (v : Value) (w : World) : Prop where
  low : Below W2.heap.size W2 w
  p1 : W2.heap.size ≤ pz
  pH : pz < H
  hs : H ≤ w.heap.size
  box : Blk w pz 35 #[a1, a2, bP, aM]
  mn : StR (fun b => W2.heap.size ≤ b ∧ b < H ∧ b ≠ pz) n w lM aM
  own : OwnL (kPr n) 47 2 H w v l
section
variable {W2 w w' : World} {pz H n : Nat} {a1 a2 bP aM v : Value} {lM : List St} {l : List (ByteArray × List St)}
theorem YI.below (h : YI W2 pz H n a1 a2 bP aM lM l v w) (hb : Below w.heap.size w w') : YI W2 pz H n a1 a2 bP aM lM l v w' :=
  ⟨thru h.low hb, h.p1, h.pH, Nat.le_trans h.hs hb.size, h.box.below hb h.box.lt, h.mn.below hb (fun _ q => Nat.lt_of_lt_of_le q.2.1 h.hs), h.own.below hb⟩
theorem YI.more {x : ByteArray × List St} {k : Nat} {L : List (ByteArray × List St)} {v' : Value} {cs : List Value} {css : List (List Value)} (h : YI W2 pz H n a1 a2 bP aM lM (L.take k) v w) (hx : L[k]? = some x) (h1 : css.length = (L.take k).length)
    (h3 : ∀ (i : Nat) x cs, (L.take k)[i]? = some x → css[i]? = some cs → cs.length = 2 ∧ (kPr n).good (fun b => H ≤ b ∧ b < w.heap.size ∧ v.ownBlock ≠ some b) w x cs)
    (h2 : w.ownsRow H 47 2 v k css.flatten)
    (ho : w'.ownsRow H 47 2 v' (k + 1) (css.flatten ++ cs)) (hg : w.grownBy w' v.ownBlock) (hv : v'.ownBlock = v.ownBlock ∨ v'.ownBlock = some w.heap.size)
    (hc : cs.length = 2 ∧ (kPr n).good (fun b => H ≤ b ∧ b < w.heap.size ∧ v.ownBlock ≠ some b) w x cs) :
    YI W2 pz H n a1 a2 bP aM lM (L.take (k + 1)) v' w' := by
  have hk : k < L.length := (List.getElem?_eq_some_iff.1 hx).1
  have hlen : (L.take k).length = k := by rw [List.length_take]; omega
  have hp1 := h.p1
  have hpH := h.pH
  have hne : ∀ b, b < H → some b ≠ v.ownBlock := fun b hb e => by have := (h2.lt b e.symm).1; omega
  refine ⟨Below.grown h.low hg h.low.size (fun g e => by have := (h2.lt g e).1; omega), h.p1, h.pH, Nat.le_trans h.hs hg.size, h.box.grown hg (hne pz h.pH), h.mn.kept (fun b q => hg.block b (Nat.lt_of_lt_of_le q.2.1 h.hs) (hne b q.2.1)), ?_⟩
  rw [take_one hx]
  exact OwnL.more h1 h3 (by rw [hlen]; exact ho) hg hv hc.1 hc.2
theorem YI.put (h : YI W2 pz H n a1 a2 bP aM lM l v w) : YI W2 pz H n a1 a2 v aM lM l v (w.setCell ⟨pz, 2, none⟩ v) :=
  ⟨h.low.setCell (p := ⟨pz, 2, none⟩) h.p1 _, h.p1, h.pH, by simpa [World.setCell] using h.hs, h.box.set_ 2 _, h.mn.kept (fun b q => Below.heap_setCell _ _ _ _ q.2.2), h.own.set_ ⟨pz, 2, none⟩ _ h.pH⟩
/-- Behind the stores into a new box. -/
theorem yi_start (n : Nat) {A1 A2 AM : Value} (hb : Below W2.heap.size W2 w) (h1 : W2.heap.size ≤ pz) (h2 : pz < w.heap.size) (hz : Blk w pz 35 #[.slice none 0 0, .slice none 0 0, .slice none 0 0, .slice none 0 0])
    (hM : StR (fun b => W2.heap.size ≤ b ∧ b < w.heap.size ∧ b ≠ pz) n w lM AM) :
    YI W2 pz w.heap.size n A1 A2 (.slice none 0 0) AM lM [] (.slice none 0 0) ((((w.setCell ⟨pz, 0, none⟩ A1).setCell ⟨pz, 1, none⟩ A2).setCell ⟨pz, 2, none⟩ (.slice none 0 0)).setCell ⟨pz, 3, none⟩ AM) := by
  have F := four_kept (w := w) (g := pz) A1 A2 (.slice none 0 0) AM 0 1 2 3
  exact ⟨(((hb.setCell (p := ⟨pz, 0, none⟩) h1 _).setCell (p := ⟨pz, 1, none⟩) h1 _).setCell (p := ⟨pz, 2, none⟩) h1 _).setCell (p := ⟨pz, 3, none⟩) h1 _, h1, h2, by rw [F.2]; exact Nat.le_refl _,
    (((hz.set_ 0 _).set_ 1 _).set_ 2 _).set_ 3 _, hM.kept (fun b q => F.1 b q.2.2), OwnL.nil _ _⟩
end
end Go.Proofs.YtklfcjimgnnlfaaDoor
