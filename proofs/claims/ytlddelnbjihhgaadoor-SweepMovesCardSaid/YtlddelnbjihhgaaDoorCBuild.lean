/- The program's arena, and the document's, made of one script. -/
import Derived.Test.YtlddelnbjihhgaaDoorNRefAny
import Derived.Test.YtlddelnbjihhgaaDoorCBase
import Derived.Deep.LoopGhost
namespace Go.Proofs.YtlddelnbjihhgaaDoor
open Go.RowKit
attribute [local go_sem ↓] Go.wp_at_zero Go.wp_at_succ

def Liv (w : World) (p lim : Nat) (L : List Nd) (W : World) : Prop := ∃ own : Nat → Prop, Arena W own p lim L ∧ (∀ i, own i → w.heap.size ≤ i) ∧ Below w.heap.size w W
section
variable {w W W1 : World} {p lim : Nat} {L : List Nd}
theorem Liv.low (h : Liv w p lim L W) : Below w.heap.size w W := by
  obtain ⟨own, -, -, hb⟩ := h
  exact hb
theorem Liv.right (h : Liv w p lim L W) : RightL L := by
  obtain ⟨own, hA, -⟩ := h
  exact hA.right
theorem Liv.few (h : Liv w p lim L W) : L.length ≤ 4000 := by
  obtain ⟨own, hA, -⟩ := h
  exact hA.few
theorem Liv.below (h : Liv w p lim L W) (hb : Below W.heap.size W W1) : Liv w p lim L W1 := by
  obtain ⟨own, hA, hw, hbw⟩ := h
  exact ⟨own, hA.below hb, hw, hbw.trans (hb.mono hbw.size)⟩
end
/-- The program's arena, and the document's, in a box of the law's. -/
def Both (w : World) (p lim : Nat) (L : List Nd) (rb : Nat) (A : Option Addr) (c : Nat) (M : List Nd) (W : World) : Prop :=
  ∃ own : Nat → Prop, Arena W own p lim L ∧ (∀ i, own i → w.heap.size ≤ i) ∧ Below w.heap.size w W ∧ Blk W rb 46 #[.int .i64 lim, .slice A M.length c] ∧ ¬ own rb ∧ w.heap.size ≤ rb ∧ RefA W A c M
section
variable {w W W1 : World} {p lim rb c : Nat} {A : Option Addr} {L M : List Nd}
theorem Both.liv (h : Both w p lim L rb A c M W) : Liv w p lim L W := by
  obtain ⟨own, h1, h2, h3, -⟩ := h
  exact ⟨own, h1, h2, h3⟩
theorem Both.box (h : Both w p lim L rb A c M W) : Blk W rb 46 #[.int .i64 lim, .slice A M.length c] := by
  obtain ⟨own, h1, h2, h3, h4, -⟩ := h
  exact h4
theorem Both.ref (h : Both w p lim L rb A c M W) : RefA W A c M := by
  obtain ⟨own, h1, h2, h3, h4, h5, h6, h7⟩ := h
  exact h7
theorem Both.cells (h : Both w p lim L rb A c M W) : (W.cell? ⟨rb, 0, none⟩ = some (.int .i64 lim) ∧ W.cell? ⟨rb, 1, none⟩ = some (.slice A M.length c)) ∧ W.frozen? ⟨rb, 0, none⟩ = false ∧ W.frozen? ⟨rb, 1, none⟩ = false ∧ rb < W.heap.size :=
  ⟨⟨h.box.cell 0, h.box.cell 1⟩, h.box.frozen 0, h.box.frozen 1, h.box.lt⟩
theorem Both.below (h : Both w p lim L rb A c M W) (hb : Below W.heap.size W W1) : Both w p lim L rb A c M W1 := by
  obtain ⟨own, h1, h2, h3, h4, h5, h6, h7⟩ := h
  exact ⟨own, h1.below hb, h2, h3.trans (hb.mono h3.size), h4.below hb h4.lt, h5, h6, h7.below hb⟩
theorem both_start (h : Liv w p lim L W) : Both w p lim L W.heap.size none 0 [] (W.alloc (.cells #[.int .i64 lim, .slice none 0 0] 46)) := by
  have hb := (Below.refl W.heap.size W).alloc (Nat.le_refl _) (.cells #[.int .i64 lim, .slice none 0 0] 46)
  obtain ⟨own, h1, h2, h3⟩ := h
  exact ⟨own, h1.below hb, h2, h3.trans (hb.mono h3.size), Blk.new _ _ _, fun h => by have := h1.old _ h; omega, h3.size, refA_none _⟩
/-- The document's next arena is stored into the box. -/
theorem Both.next {A' : Option Addr} {c' : Nat} {M' : List Nd} (h : Both w p lim L rb A c M W) (hr : RefA W A' c' M') : Both w p lim L rb A' c' M' ((W.setCell ⟨rb, 0, none⟩ (.int .i64 lim)).setCell ⟨rb, 1, none⟩ (.slice A' M'.length c')) := by
  obtain ⟨own, h1, h2, h3, h4, h5, h6, h7⟩ := h
  have ho : Only (fun i => i = rb) W ((W.setCell ⟨rb, 0, none⟩ (.int .i64 lim)).setCell ⟨rb, 1, none⟩ (.slice A' M'.length c')) :=
    (Only.of_grown (grown_set W ⟨rb, 0, none⟩ _) (own := fun i => i = rb) fun r e => by simpa using e.symm).trans (Only.of_grown (grown_set _ ⟨rb, 1, none⟩ _) (own := fun i => i = rb) fun r e => by simpa using e.symm) fun _ h => .inl h
  have hne := own_blk_ne hr.1 h4 (by decide)
  have hbx := (h4.set_ 0 (.int .i64 lim)).set_ 1 (.slice A' M'.length c')
  refine ⟨own, h1.only ho (fun i hi e => h5 (e ▸ hi)), h2, (h3.setCell h6 _).setCell h6 _, by simpa using hbx, h5, h6, ⟨ho.row hr.1 (fun g e h => hne (h ▸ e)), hr.2⟩⟩
theorem both_arena (h : Both w p lim L rb A c M W) : ∃ own, Arena W own p lim L := by
  obtain ⟨own, h1, -⟩ := h
  exact ⟨own, h1⟩
end
theorem own_row_ne {w : World} {base base' size size' n n' : Nat} {e e' : TypeId} {v v' : Value} {xs xs' : List Value} (h : w.ownsRow base e size v n xs) (h' : w.ownsRow base' e' size' v' n' xs') (hne : e ≠ e') {g : Nat} (hg : v.ownBlock = some g) : v'.ownBlock ≠ some g := by
  rcases h.2 with ⟨rfl, _⟩ | ⟨k, cap, cur, rfl, _, hh, _⟩
  · simp [Value.ownBlock] at hg
  · have : k = g := by simpa [Value.ownBlock] using hg
    subst this
    exact own_blk_ne h' (t := e) hh hne.symm
section
variable {w W W1 : World} {p lim rb c : Nat} {A : Option Addr} {L M L' : List Nd}
/-- An arena touches its three blocks alone: none of the document's. -/
theorem both_own (h : Both w p lim L rb A c M W) : ∃ own : Nat → Prop, Arena W own p lim L ∧ (∀ i, own i → w.heap.size ≤ i) ∧ ¬ own rb ∧ (∀ g, (Value.slice A M.length c).ownBlock = some g → ¬ own g) ∧ ∀ g cs, Blk W g 46 cs → ¬ own g := by
  obtain ⟨own, ⟨P, T, An, Ap, cn, cp, hR, hrest⟩, h2, h3, h4, h5, h6, h7⟩ := h
  refine ⟨fun i => i = p ∨ (Value.slice An L.length cn).ownBlock = some i ∨ (Value.slice Ap P cp).ownBlock = some i, ⟨P, T, An, Ap, cn, cp, ⟨hR.blk, .inl rfl, fun g e => .inr (.inl e), fun g e => .inr (.inr e), ?_, hR.rowN, hR.rowP, hR.limit, hR.few, hR.room⟩, hrest⟩, ?_, ?_, ?_, ?_⟩
  · rintro i (rfl | e | e)
    · exact hR.old _ hR.mine
    · exact hR.old _ (hR.mineN _ e)
    · exact hR.old _ (hR.mineP _ e)
  · rintro i (rfl | e | e)
    · exact h2 _ hR.mine
    · exact h2 _ (hR.mineN _ e)
    · exact h2 _ (hR.mineP _ e)
  · rintro (rfl | e | e)
    · exact h5 hR.mine
    · exact h5 (hR.mineN _ e)
    · exact h5 (hR.mineP _ e)
  · rintro g hg (rfl | e | e)
    · exact own_blk_ne h7.1 hR.blk (by decide) hg
    · exact own_row_ne h7.1 hR.rowN (by decide) hg e
    · exact own_row_ne h7.1 hR.rowP (by decide) hg e
  · rintro g cs hg (rfl | e | e)
    · exact Blk.ne_ hg hR.blk (by decide) rfl
    · exact own_blk_ne hR.rowN hg (by decide) e
    · exact own_blk_ne hR.rowP hg (by decide) e
theorem both_next {own own' : Nat → Prop} (h : Both w p lim L rb A c M W) (hw : ∀ i, own i → w.heap.size ≤ i) (hnr : ¬ own rb) (hnA : ∀ g, (Value.slice A M.length c).ownBlock = some g → ¬ own g)
    (hA' : Arena W1 own' p lim L') (ho : Only own W W1) (hw' : ∀ i, own' i → own i ∨ W.heap.size ≤ i) : Both w p lim L' rb A c M W1 := by
  obtain ⟨own0, h1, h2, h3, h4, h5, h6, h7⟩ := h
  exact ⟨own', hA', fun i hi => (hw' i hi).elim (hw i) (fun h => Nat.le_trans h3.size h), h3.trans (ho.below h3.size hw), ho.blk h4 hnr, fun hi => (hw' _ hi).elim hnr (fun h => by have := h4.lt; omega), h6, ⟨ho.row h7.1 hnA, h7.2⟩⟩
theorem both_ok {a lo hi r : Int} {g : Nat} {cs : Array Value} (hx : Blk W g 46 cs) (h : Both w p lim L rb A c M W) (hfew : L.length + 1 ≤ 4000) (hm : mkP lim L a lo hi = (L', r, 0)) :
    Calls Tryd.prog 65 #[.pointer (some ⟨p, 0, none⟩), .int .i64 a, .int .i64 lo, .int .i64 hi] W fun e w' => e = .returned (.tuple #[.int .i64 r, .nilIface]) ∧ Both w p lim L' rb A c M w' ∧ Blk w' g 46 cs := by
  obtain ⟨own, hA, hw, hr, hnA, hop⟩ := both_own h
  exact (mk_ok hA hfew hm).mono fun _ _ ⟨own', h1, h2, h3, h4⟩ => ⟨h1, both_next h hw hr hnA h2 h3 h4, h3.blk hx (hop _ _ hx)⟩
theorem both_bad {a lo hi r cc : Int} {g : Nat} {cs : Array Value} (hx : Blk W g 46 cs) (h : Both w p lim L rb A c M W) (hfew : L.length + 1 ≤ 4000) (hm : mkP lim L a lo hi = (L', r, cc)) (hc : cc ≠ 0) :
    Calls Tryd.prog 65 #[.pointer (some ⟨p, 0, none⟩), .int .i64 a, .int .i64 lo, .int .i64 hi] W fun e w' => ∃ b, e = .returned (.tuple #[.int .i64 r, .iface 165 (.pointer (some ⟨b, 0, none⟩))]) ∧ Blk w' b 167 #[.string ⟨#[109, 107]⟩, .int .i64 a, .iface 53 (.int .i64 cc)] ∧ Both w p lim L' rb A c M w' ∧ Blk w' g 46 cs := by
  obtain ⟨own, hA, hw, hr, hnA, hop⟩ := both_own h
  exact (mk_bad hA hfew hm hc).mono fun _ _ ⟨own', b, h1, hk, h2, h3, h4⟩ => ⟨b, h1, hk, both_next h hw hr hnA h2 h3 h4, h3.blk hx (hop _ _ hx)⟩
end
theorem ne_nil (b : Nat) (w : World) : (binOp .eql 43 (.pointer (some ⟨b, 0, none⟩)) (.pointer none)).run Tryd.prog w = .ok (.bool false) w := by kernel_rfl
def RetFar (w : World) (e : Ending) (w' : World) : Prop := e = .returned (.tuple #[.pointer none, .agg #[.int .i64 60, .slice none 0 0], .bool false]) ∧ Below w.heap.size w w'
def RetBuilt (L : List Nd) (w : World) (e : Ending) (w' : World) : Prop := ∃ p rb A c, e = .returned (.tuple #[.pointer (some ⟨p, 0, none⟩), .agg #[.int .i64 60, .slice A L.length c], .bool true]) ∧ Both w p 60 L rb A c L w'
/-- The result's box is written. -/
theorem box_laid {W : World} {b : Nat} {x0 x1 : Value} (h : Blk W b 46 #[x0, x1]) (y0 y1 : Value) : (W.setCell ⟨b, 0, none⟩ y0).cell? ⟨b, 0, none⟩ = some y0 ∧ ((W.setCell ⟨b, 0, none⟩ y0).setCell ⟨b, 1, none⟩ y1).drew.cell? ⟨b, 1, none⟩ = some y1 ∧ Blk ((W.setCell ⟨b, 0, none⟩ y0).setCell ⟨b, 1, none⟩ y1).drew b 46 #[y0, y1] := by
  have k0 : Blk (W.setCell ⟨b, 0, none⟩ y0) b 46 #[y0, x1] := by simpa using h.set_ 0 y0
  have k1 : Blk ((W.setCell ⟨b, 0, none⟩ y0).setCell ⟨b, 1, none⟩ y1) b 46 #[y0, y1] := by simpa using k0.set_ 1 y1
  have k2 : Blk ((W.setCell ⟨b, 0, none⟩ y0).setCell ⟨b, 1, none⟩ y1).drew b 46 #[y0, y1] := k1.below (Below.refl _ _).drew k1.lt
  exact ⟨k0.cell 0, k2.cell 1, k2⟩
theorem laid_below {W : World} {B b : Nat} (hb : B ≤ b) (y0 y1 : Value) : Below B W ((W.setCell ⟨b, 0, none⟩ y0).setCell ⟨b, 1, none⟩ y1).drew := (((Below.refl B W).setCell (p := ⟨b, 0, none⟩) hb _).setCell (p := ⟨b, 1, none⟩) hb _).drew
set_option maxRecDepth 100000 in
theorem build_far {A : Option Addr} {m c : Nat} (hm : 40 < m) (w : World) : Calls Tryd.prog 25 #[.slice A m c] w (RetFar w) := by
  have HN : Hid (∀ W, Calls Tryd.prog 62 #[.int .i64 60] W (RetNew 60 W)) := Lib.hid fun W => new_any 60 (by omega) W
  have HR : Hid (∀ W, Calls Tryd.prog 63 #[.int .i64 60] W (RetRNew 60 W)) := Lib.hid fun W => rnew_any rfl W
  have ne := ne_nil
  have hd : decide (40 < (m : Int)) = true := decide_eq_true (by omega)
  go_enter Tryd.func25, Tryd.ntmps25
  go_wp2_with (first
    | (go_at_call 62; ((with_reducible refine (HN.out _).mono ?_); rintro e w1 ⟨rfl, hA1, hb1⟩))
    | (go_at_call 63; ((with_reducible refine (HR.out _).mono ?_); rintro e w2 ⟨rfl, hb2⟩)))
  have hbB := hb1.trans (hb2.mono hb1.size)
  have hbW : Below w.heap.size w _ := ((Below.refl w.heap.size w).alloc (Nat.le_refl _) (.cells #[.int .i64 0, .slice none 0 0] 46)).trans (hbB.mono (by simp))
  have k3 := (Blk.new w 46 #[.int .i64 0, .slice none 0 0]).below hbB (by simp)
  have hb3 := (Below.refl w2.heap.size w2).alloc (Nat.le_refl _) (.cells #[.int .i64 60, .slice none 0 0] 46)
  have k3 := k3.below hb3 k3.lt
  have k6 := Blk.new w2 46 #[.int .i64 60, .slice none 0 0]
  have hbX := hbW.trans (hb3.mono hbW.size)
  obtain ⟨W3, hW3⟩ : ∃ W3, w2.alloc (.cells #[.int .i64 60, .slice none 0 0] 46) = W3 := ⟨_, rfl⟩
  obtain ⟨b6, hb6⟩ : ∃ b, w2.heap.size = b := ⟨_, rfl⟩
  rw [hW3] at k3 k6 hbX ⊢
  rw [hb6] at k6 ⊢
  have e0 : W3.cell? ⟨b6, 0, none⟩ = some (.int .i64 60) := k6.cell 0
  have e1 : W3.cell? ⟨b6, 1, none⟩ = some (.slice none 0 0) := k6.cell 1
  have e2 : W3.cell? ⟨w.heap.size, 0, none⟩ = some (.int .i64 0) := k3.cell 0
  have e3 : W3.cell? ⟨w.heap.size, 1, none⟩ = some (.slice none 0 0) := k3.cell 1
  have e4 : W3.frozen? ⟨w.heap.size, 0, none⟩ = false := k3.frozen 0
  have e5 : W3.frozen? ⟨w.heap.size, 1, none⟩ = false := k3.frozen 1
  have e6 := k6.lt
  have e7 := k3.lt
  have hL := box_laid k3 (.int .i64 60) (.slice none 0 0)
  have r0 := hL.1
  have r1 := hL.2.1
  have hfin := hbX.trans (laid_below (W := W3) (B := w.heap.size) (b := w.heap.size) (Nat.le_refl _) (.int .i64 60) (.slice none 0 0))
  clear hbB hbW hb3 hb1 hb2 hA1 hW3 hb6 k6 hbX hL
  go_region
  go_wp2_with fail
  refine bodyPost_ret (v := .tuple #[.pointer none, .agg #[.int .i64 60, .slice none 0 0], .bool false]) (by simp [results, Tryd.results25, go_sem, r0, r1]) rfl ⟨rfl, hfin⟩
/-- The script's arena, and the document's. -/
structure Bui (w : World) (p rb : Nat) (A : Option Addr) (c : Nat) (M : List Nd) (W : World) : Prop where
  both : Both w p 60 M rb A c M W
  res : Blk W w.heap.size 46 #[.int .i64 0, .slice none 0 0]
  ne : rb ≠ w.heap.size
theorem blk_else {W : World} {rb g : Nat} {t : TypeId} {cs : Array Value} (h : Blk W g t cs) (hne : rb ≠ g) (y0 y1 : Value) : Blk ((W.setCell ⟨rb, 0, none⟩ y0).setCell ⟨rb, 1, none⟩ y1) g t cs := by
  have ho : Only (fun i => i = rb) W ((W.setCell ⟨rb, 0, none⟩ y0).setCell ⟨rb, 1, none⟩ y1) :=
    (Only.of_grown (grown_set W ⟨rb, 0, none⟩ _) (own := fun i => i = rb) fun r e => by simpa using e.symm).trans (Only.of_grown (grown_set _ ⟨rb, 1, none⟩ _) (own := fun i => i = rb) fun r e => by simpa using e.symm) fun _ h => .inl h
  exact ho.blk h (fun e => hne e.symm)
theorem Bui.below {w W W1 : World} {p rb c : Nat} {A : Option Addr} {M : List Nd} (h : Bui w p rb A c M W) (hb : Below W.heap.size W W1) : Bui w p rb A c M W1 := ⟨h.both.below hb, h.res.below hb h.res.lt, h.ne⟩
theorem bui_ok {w W : World} {p rb c : Nat} {A : Option Addr} {L L' : List Nd} {a lo hi r cc : Int} (h : Both w p 60 L rb A c L' W) (hx : Blk W w.heap.size 46 #[.int .i64 0, .slice none 0 0]) (hne : rb ≠ w.heap.size) (hfew : L.length + 1 ≤ 4000) (hm : mkP 60 L a lo hi = (L', r, cc)) :
    Calls Tryd.prog 65 #[.pointer (some ⟨p, 0, none⟩), .int .i64 a, .int .i64 lo, .int .i64 hi] W fun e w' => ∃ v, e = .returned (.tuple #[.int .i64 r, v]) ∧ Bui w p rb A c L' w' := by
  by_cases hc : cc = 0
  · subst hc
    exact (both_ok hx h hfew hm).mono fun _ _ ⟨h1, h2, h3⟩ => ⟨_, h1, h2, h3, hne⟩
  · exact (both_bad hx h hfew hm hc).mono fun _ _ ⟨b, h1, _, h2, h3⟩ => ⟨_, h1, h2, h3, hne⟩
theorem bui_end {w W : World} {p rb c : Nat} {A : Option Addr} {M : List Nd} {y0 y1 : Value} (h : Bui w p rb A c M W) : Both w p 60 M rb A c M ((W.setCell ⟨w.heap.size, 0, none⟩ y0).setCell ⟨w.heap.size, 1, none⟩ y1).drew := by
  obtain ⟨own, h1, h2, h3, hnA, hop⟩ := both_own h.both
  have hno := hop _ _ h.res
  have ho1 : Only (fun i => i = w.heap.size) W ((W.setCell ⟨w.heap.size, 0, none⟩ y0).setCell ⟨w.heap.size, 1, none⟩ y1) :=
    (Only.of_grown (grown_set W ⟨w.heap.size, 0, none⟩ _) (own := fun i => i = w.heap.size) fun r e => by simpa using e.symm).trans (Only.of_grown (grown_set _ ⟨w.heap.size, 1, none⟩ _) (own := fun i => i = w.heap.size) fun r e => by simpa using e.symm) fun _ h => .inl h
  have ho := ho1.trans (Only.of_below (Below.refl _ _).drew (fun i => i = w.heap.size)) fun _ h => .inl h
  have hne := own_blk_ne h.both.ref.1 h.res (by decide)
  obtain ⟨own0, k1, k2, k3, k4, k5, k6, k7⟩ := h.both
  exact ⟨own, h1.only ho (fun i hi e => hno (e ▸ hi)), h2, k3.trans (laid_below (Nat.le_refl _) _ _), ho.blk k4 h.ne, h3, k6, ⟨ho.row k7.1 (fun g e h => hne (h ▸ e)), k7.2⟩⟩
set_option maxRecDepth 100000 in
set_option maxHeartbeats 6400000 in
theorem build_any {A : Option Addr} {m c : Nat} {f : Nat → Nd} (hm : m ≤ 40) (w : World) (hO : Ops w A m f) : Calls Tryd.prog 25 #[.slice A m c] w (RetBuilt (scr 60 [] f m) w) := by
  have HN : Hid (∀ W, Calls Tryd.prog 62 #[.int .i64 60] W (RetNew 60 W)) := Lib.hid fun W => new_any 60 (by omega) W
  have HR : Hid (∀ W, Calls Tryd.prog 63 #[.int .i64 60] W (RetRNew 60 W)) := Lib.hid fun W => rnew_any rfl W
  have ne := ne_nil
  have hd : decide (40 < (m : Int)) = false := decide_eq_false (by omega)
  have HO := Lib.hid hO
  clear hO
  go_enter Tryd.func25, Tryd.ntmps25
  go_wp2_with (first
    | (go_at_call 62; ((with_reducible refine (HN.out _).mono ?_); rintro e w1 ⟨rfl, hA1, hb1⟩); have HA1 := Lib.hid hA1; clear hA1)
    | (go_at_call 63; ((with_reducible refine (HR.out _).mono ?_); rintro e w2 ⟨rfl, hb2⟩)))
  obtain ⟨p, hp⟩ : ∃ p, w.heap.size + 1 = p := ⟨_, rfl⟩
  have hp0 : w.heap.size ≤ p := by omega
  have hp1 : (w.alloc (.cells #[.int .i64 0, .slice none 0 0] 46)).heap.size = p := (World.size_alloc _ _).trans hp
  have hA1 : Arena w1 (fun i => i = p) p 60 [] := by have := HA1.out; rw [hp1] at this; exact this
  have hbW := ((Below.refl w.heap.size w).alloc (Nat.le_refl _) (.cells #[.int .i64 0, .slice none 0 0] 46)).trans (hb1.mono (by simp))
  have HL1 : Hid (Liv w p 60 [] w1) := Lib.hid ⟨_, hA1, fun i hi => by rw [hi]; exact hp0, hbW⟩
  have k3 := (Blk.new w 46 #[.int .i64 0, .slice none 0 0]).below hb1 (by simp)
  have k3 := k3.below hb2 k3.lt
  have HS0 := Lib.hid (show Bui w p _ none 0 [] _ from ⟨both_start (HL1.out.below hb2), k3.below ((Below.refl _ _).alloc (Nat.le_refl _) (.cells #[.int .i64 60, .slice none 0 0] 46)) k3.lt, by have := hb1.size; have := hb2.size; simp at *; omega⟩)
  obtain ⟨rb, hrb⟩ : ∃ rb, w2.heap.size = rb := ⟨_, rfl⟩
  rw [hrb] at HS0 ⊢
  rw [hp]
  clear hp0 hp1 hA1 hbW HL1 k3 HA1 hb1 hb2 hp hrb
  go_loopg [26] m (fun gk t26 wr => ∃ (i : Nat) (A' : Option Addr) (c' : Nat), i + gk = m ∧ t26 = .int .i64 (i : Int) ∧ Bui w p rb A' c' (scr 60 [] f i) wr)
  case atStart => exact ⟨0, none, 0, by omega, rfl, HS0.out⟩
  case round =>
    clear HS0
    rename Nat => g0
    obtain ⟨i, A', c', hi, rfl, hB⟩ := hrel
    have HB := Lib.hid hB
    have HI := Lib.hid hi
    obtain ⟨⟨c0, c1⟩, f0, f1, hlt⟩ := hB.both.cells
    clear hB hi
    by_cases him : i < m
    · obtain ⟨b', off, x1, x2, x3, hA, hblt, hf, k0, k1, k2⟩ := (HO.out.below HB.out.both.liv.low).named him
      obtain ⟨L', rr, cc, hm'⟩ : ∃ L' r cc, mkP 60 (scr 60 [] f i) x1 x2 x3 = (L', r, cc) := ⟨_, _, _, rfl⟩
      have HS : Hid (scr 60 [] f (i + 1) = L') := Lib.hid (by show (mkP _ _ _ _ _).1 = _; rw [hf, hm'])
      have hrt : RightL (scr 60 [] f i) := scr_right right_none f i
      have hfw : (scr 60 [] f i).length + 1 ≤ 4000 := by have := scr_len 60 [] f i; simp at this; omega
      obtain ⟨M, hM⟩ : ∃ M, scr 60 [] f i = M := ⟨_, rfl⟩
      rw [hM] at HB hm' hrt hfw c1
      have HMk := Lib.hid hm'
      have HRt := Lib.hid hrt
      have HFw := Lib.hid hfw
      have hbo := (Below.refl wr.heap.size wr).alloc (Nat.le_refl _) (.cells #[.int .i64 x1, .int .i64 x2, .int .i64 x3] 92)
      have HBx := Lib.hid (HB.out.below hbo)
      have HOx := Lib.hid (Blk.new wr 92 #[.int .i64 x1, .int .i64 x2, .int .i64 x3])
      have HRx := Lib.hid HBx.out.both.ref
      have HC : Hid (Calls Tryd.prog 64 #[.agg #[.int .i64 60, .slice A' M.length c'], .int .i64 x1, .int .i64 x2, .int .i64 x3] (wr.alloc (.cells #[.int .i64 x1, .int .i64 x2, .int .i64 x3] 92)) (RetRMk 60 L' rr cc (wr.alloc (.cells #[.int .i64 x1, .int .i64 x2, .int .i64 x3] 92)))) := Lib.hid (rmk_any HMk.out HRx.out HRt.out HFw.out)
      have hlt' : rb ≠ wr.heap.size := Nat.ne_of_lt hlt
      have HK : Hid (∀ A2 c2 w3, Bui w p rb A' c' M w3 → RefA w3 A2 c2 L' → Calls Tryd.prog 65 #[.pointer (some ⟨p, 0, none⟩), .int .i64 x1, .int .i64 x2, .int .i64 x3] (((w3.setCell ⟨rb, 0, none⟩ (.int .i64 60)).setCell ⟨rb, 1, none⟩ (.slice A2 L'.length c2)).alloc (.cells #[.int .i64 60, .slice A2 L'.length c2] 46)) fun e w' => ∃ v, e = .returned (.tuple #[.int .i64 rr, v]) ∧ Bui w p rb A2 c2 L' w') := Lib.hid fun A2 c2 w3 h3 hr3 => bui_ok ((h3.both.next hr3).below ((Below.refl _ _).alloc (Nat.le_refl _) _)) (Blk.up (blk_else h3.res h3.ne _ _) _) h3.ne HFw.out HMk.out
      subst hA
      clear hf hm' hrt hfw hM hbo
      go_wp2_with (first
        | (go_at_call 64; ((with_reducible refine HC.out.mono ?_); rintro e w3 ⟨A2, c2, rfl, hr3, hb3⟩); have HB3 := Lib.hid (HBx.out.below hb3); have HR3 := Lib.hid hr3; obtain ⟨⟨d0, d1⟩, d2, d3, d4⟩ := (HBx.out.below hb3).both.cells; have ho3 := HOx.out.below hb3 HOx.out.lt; have o0 : w3.cell? ⟨wr.heap.size, 0, none⟩ = some (.int .i64 x1) := ho3.cell 0; have o1 : w3.cell? ⟨wr.heap.size, 1, none⟩ = some (.int .i64 x2) := ho3.cell 1; have o2 : w3.cell? ⟨wr.heap.size, 2, none⟩ = some (.int .i64 x3) := ho3.cell 2; have o3 := ho3.lt; clear hr3 hb3 ho3)
        | (go_at_call 65; ((with_reducible refine (HK.out _ _ _ HB3.out HR3.out).mono ?_); rintro e w5 ⟨v5, rfl, h5⟩); have H5 := Lib.hid h5; clear h5))
      have hi := HI.out
      go_roundg (g0 - 1)
      case measure => omega
      case rel => exact ⟨i + 1, A2, c2, by omega, by simp, by rw [HS.out]; exact H5.out⟩
    · have hie : i = m := by have := HI.out; omega
      subst hie
      have hL := box_laid HB.out.res (.int .i64 60) (.slice A' (scr 60 [] f i).length c')
      have r0 := hL.1
      have r1 := hL.2.1
      have e2 : wr.cell? ⟨w.heap.size, 0, none⟩ = some (.int .i64 0) := HB.out.res.cell 0
      have e3 : wr.cell? ⟨w.heap.size, 1, none⟩ = some (.slice none 0 0) := HB.out.res.cell 1
      have e4 : wr.frozen? ⟨w.heap.size, 0, none⟩ = false := HB.out.res.frozen 0
      have e5 : wr.frozen? ⟨w.heap.size, 1, none⟩ = false := HB.out.res.frozen 1
      have e7 := HB.out.res.lt
      have HF := Lib.hid (bui_end (y0 := .int .i64 60) (y1 := .slice A' (scr 60 [] f i).length c') HB.out)
      clear hL
      go_wp2_with fail
      go_region
      go_wp2_with fail
      refine bodyPost_ret (v := .tuple #[.pointer (some ⟨p, 0, none⟩), .agg #[.int .i64 60, .slice A' (scr 60 [] f i).length c'], .bool true]) (by simp [results, Tryd.results25, go_sem, r0, r1]) rfl ⟨p, rb, A', c', rfl, HF.out⟩
end Go.Proofs.YtlddelnbjihhgaaDoor
