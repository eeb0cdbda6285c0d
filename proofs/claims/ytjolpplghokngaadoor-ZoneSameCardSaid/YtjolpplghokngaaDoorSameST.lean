/- ZoneSame: what stands between the calls of its third region. -/
import Derived.Test.YtjolpplghokngaaDoorSameWalk
import Derived.BigRegion
namespace Go.Proofs.YtjolpplghokngaaDoor
open Go.RowKit
attribute [local go_sem ↓] Go.wp_at_zero Go.wp_at_succ

theorem zcell {W W1 : World} (hb : Below W.heap.size W W1) : (∀ b o, b < W.heap.size → W1.cell? ⟨b, o, none⟩ = W.cell? ⟨b, o, none⟩) ∧ (∀ b o, b < W.heap.size → W1.frozen? ⟨b, o, none⟩ = W.frozen? ⟨b, o, none⟩) :=
  ⟨fun b o h => hb.cell (p := ⟨b, o, none⟩) h, fun b o h => hb.frozen (p := ⟨b, o, none⟩) h⟩
theorem fst_of {A B : Prop} (h : A ∧ B) : A := h.1
theorem kz_call {w W W1 : World} {x0 x1 y0 y1 : Option Value} (hb : Below W.heap.size W W1) (h : (Below w.heap.size w W ∧ w.heap.size + 1 < (W).heap.size ∧ (W).cell? ⟨w.heap.size, 0, none⟩ = x0 ∧ (W).cell? ⟨w.heap.size, 1, none⟩ = x1 ∧ (W).cell? ⟨w.heap.size + 1, 0, none⟩ = y0 ∧ (W).cell? ⟨w.heap.size + 1, 1, none⟩ = y1)) : (Below w.heap.size w W1 ∧ w.heap.size + 1 < (W1).heap.size ∧ (W1).cell? ⟨w.heap.size, 0, none⟩ = x0 ∧ (W1).cell? ⟨w.heap.size, 1, none⟩ = x1 ∧ (W1).cell? ⟨w.heap.size + 1, 0, none⟩ = y0 ∧ (W1).cell? ⟨w.heap.size + 1, 1, none⟩ = y1) := by
  obtain ⟨h0, h1, h2, h3, h4, h5⟩ := h
  have hs := hb.size
  exact ⟨h0.trans (hb.mono h0.size), by omega, (hb.cell (p := ⟨w.heap.size, 0, none⟩) (by show w.heap.size < _; omega)).trans h2, (hb.cell (p := ⟨w.heap.size, 1, none⟩) (by show w.heap.size < _; omega)).trans h3, (hb.cell (p := ⟨w.heap.size + 1, 0, none⟩) h1).trans h4, (hb.cell (p := ⟨w.heap.size + 1, 1, none⟩) h1).trans h5⟩
theorem kz_alloc {w W : World} {x0 x1 y0 y1 : Option Value} (o : Obj) (h : (Below w.heap.size w W ∧ w.heap.size + 1 < (W).heap.size ∧ (W).cell? ⟨w.heap.size, 0, none⟩ = x0 ∧ (W).cell? ⟨w.heap.size, 1, none⟩ = x1 ∧ (W).cell? ⟨w.heap.size + 1, 0, none⟩ = y0 ∧ (W).cell? ⟨w.heap.size + 1, 1, none⟩ = y1)) : (Below w.heap.size w (W.alloc o) ∧ w.heap.size + 1 < ((W.alloc o)).heap.size ∧ ((W.alloc o)).cell? ⟨w.heap.size, 0, none⟩ = x0 ∧ ((W.alloc o)).cell? ⟨w.heap.size, 1, none⟩ = x1 ∧ ((W.alloc o)).cell? ⟨w.heap.size + 1, 0, none⟩ = y0 ∧ ((W.alloc o)).cell? ⟨w.heap.size + 1, 1, none⟩ = y1) := kz_call (zboxed W o) h
theorem kz_set {w W : World} {x0 x1 y0 y1 : Option Value} {a : Addr} (u : Value) (ha : w.heap.size + 1 < a.block) (h : (Below w.heap.size w W ∧ w.heap.size + 1 < (W).heap.size ∧ (W).cell? ⟨w.heap.size, 0, none⟩ = x0 ∧ (W).cell? ⟨w.heap.size, 1, none⟩ = x1 ∧ (W).cell? ⟨w.heap.size + 1, 0, none⟩ = y0 ∧ (W).cell? ⟨w.heap.size + 1, 1, none⟩ = y1)) : (Below w.heap.size w (W.setCell a u) ∧ w.heap.size + 1 < ((W.setCell a u)).heap.size ∧ ((W.setCell a u)).cell? ⟨w.heap.size, 0, none⟩ = x0 ∧ ((W.setCell a u)).cell? ⟨w.heap.size, 1, none⟩ = x1 ∧ ((W.setCell a u)).cell? ⟨w.heap.size + 1, 0, none⟩ = y0 ∧ ((W.setCell a u)).cell? ⟨w.heap.size + 1, 1, none⟩ = y1) := by
  obtain ⟨h0, h1, h2, h3, h4, h5⟩ := h
  refine ⟨h0.setCell (by omega) u, by simp; exact h1, ?_, ?_, ?_, ?_⟩
  · rw [World.cell?_setCell_other W a ⟨w.heap.size, 0, none⟩ u (fun e => by rw [e] at ha; dsimp only at ha; omega)]; exact h2
  · rw [World.cell?_setCell_other W a ⟨w.heap.size, 1, none⟩ u (fun e => by rw [e] at ha; dsimp only at ha; omega)]; exact h3
  · rw [World.cell?_setCell_other W a ⟨w.heap.size + 1, 0, none⟩ u (fun e => by rw [e] at ha; dsimp only at ha; omega)]; exact h4
  · rw [World.cell?_setCell_other W a ⟨w.heap.size + 1, 1, none⟩ u (fun e => by rw [e] at ha; dsimp only at ha; omega)]; exact h5
theorem kz_drew {w W : World} {x0 x1 y0 y1 : Option Value} (h : (Below w.heap.size w W ∧ w.heap.size + 1 < (W).heap.size ∧ (W).cell? ⟨w.heap.size, 0, none⟩ = x0 ∧ (W).cell? ⟨w.heap.size, 1, none⟩ = x1 ∧ (W).cell? ⟨w.heap.size + 1, 0, none⟩ = y0 ∧ (W).cell? ⟨w.heap.size + 1, 1, none⟩ = y1)) : (Below w.heap.size w W.drew ∧ w.heap.size + 1 < (W.drew).heap.size ∧ (W.drew).cell? ⟨w.heap.size, 0, none⟩ = x0 ∧ (W.drew).cell? ⟨w.heap.size, 1, none⟩ = x1 ∧ (W.drew).cell? ⟨w.heap.size + 1, 0, none⟩ = y0 ∧ (W.drew).cell? ⟨w.heap.size + 1, 1, none⟩ = y1) := ⟨h.1.drew, h.2⟩
theorem Duo.drew {W : World} {B : Nat} {t : TypeId} {p q : Value} (h : Duo W B t p q) : Duo W.drew B t p q := h
theorem duo_here {Y : World} {g : Nat} {t : TypeId} {p q : Value} (hg : Y.heap.size = g) : Duo (Y.alloc (.cells #[p, q] t)) g t p q := by
  subst hg; exact Duo.new _ _ _ _
/-- Block g holds two variables, whatever they hold. -/
def Z2 (W : World) (g : Nat) : Prop := ∃ p q : Value, Duo W g 28 p q
theorem z2_here {Y : World} {g : Nat} {p q : Value} (hg : Y.heap.size = g) : Z2 (Y.alloc (.cells #[p, q] 28)) g := ⟨p, q, duo_here hg⟩
theorem Z2.alloc {W : World} {g : Nat} (h : Z2 W g) (o : Obj) : Z2 (W.alloc o) g := let ⟨p, q, d⟩ := h; ⟨p, q, d.alloc o⟩
theorem Z2.drew {W : World} {g : Nat} (h : Z2 W g) : Z2 W.drew g := h
theorem Z2.below {W W' : World} {g : Nat} (h : Z2 W g) (hb : Below W.heap.size W W') : Z2 W' g := let ⟨p, q, d⟩ := h; ⟨p, q, d.below hb⟩
theorem Z2.set {W : World} {g : Nat} (h : Z2 W g) (a : Addr) (u : Value) : Z2 (W.setCell a u) g := by
  obtain ⟨p, q, d⟩ := h
  by_cases e : g = a.block
  · obtain ⟨hlt, hk⟩ := Array.getElem?_eq_some_iff.1 d
    have h2 : (W.setCell a u).heap[g]? = some (.cells (#[p, q].setIfInBounds a.off u) 28 (0, 0)) ∨ (W.setCell a u).heap[g]? = some (.cells #[p, q] 28 (0, 0)) := by
      subst e
      have e1 : (W.setCell a u).heap[a.block]? = some (.cells (if a.spot.isSome = true then #[p, q] else #[p, q].setIfInBounds a.off u) 28 (0, 0)) := by
        show (W.heap.modify a.block _)[a.block]? = _
        rw [Array.getElem?_eq_getElem (by rw [Array.size_modify]; exact hlt), Array.getElem_modify_self, hk]
      rw [e1]
      by_cases hs : a.spot.isSome = true
      · rw [if_pos hs]; exact .inr rfl
      · rw [if_neg hs]; exact .inl rfl
    rcases h2 with h2 | h2
    · rcases Nat.lt_trichotomy a.off 1 with hlt | heq | hgt
      · obtain e0 : a.off = 0 := by omega
        rw [e0] at h2
        exact ⟨u, q, h2⟩
      · rw [heq] at h2
        exact ⟨p, u, h2⟩
      · rw [Array.setIfInBounds_eq_of_size_le (by simp; omega)] at h2
        exact ⟨p, q, h2⟩
    · exact ⟨p, q, h2⟩
  · exact ⟨p, q, d.other e u⟩
theorem z2_put {W : World} {g : Nat} {x y : Value} (h : Z2 W g) : Duo ((W.setCell ⟨g, 0, none⟩ x).setCell ⟨g, 1, none⟩ y) g 28 x y := let ⟨_, _, d⟩ := h; (d.set0 x).set1 y
theorem ZRes.setZ2 {W : World} {base m : Nat} {R : Option Mat} {v : Value} {a : Addr} (h : ZRes W base m R v) (hd : Z2 W a.block) (u : Value) : ZRes (W.setCell a u) base m R v := by
  cases R with
  | none => exact h
  | some C =>
    obtain ⟨hc, g, cap, e, ho⟩ := h
    obtain ⟨p, q, d⟩ := hd
    refine ⟨hc, g, cap, e, ho.kept (duo_grown_setCell W a u) (.inr ?_)⟩
    exact (d.not_row (by decide) ho).symm
/-- The boxes of both arguments. -/
def KZ (w : World) (x0 x1 y0 y1 : Value) (W : World) : Prop := Below w.heap.size w W ∧ w.heap.size + 1 < W.heap.size ∧ W.cell? ⟨w.heap.size, 0, none⟩ = some x0 ∧ W.cell? ⟨w.heap.size, 1, none⟩ = some x1 ∧ W.cell? ⟨w.heap.size + 1, 0, none⟩ = some y0 ∧ W.cell? ⟨w.heap.size + 1, 1, none⟩ = some y1
/-- Between the calls: the boxes; the new variables that there are; what Meet made. -/
structure ST (w : World) (x0 x1 y0 y1 : Value) (ma mb : Nat) (Ra Rb : Option Mat) (g1 g2 : Option Nat) (r3 r6 : Option (Option Addr × Nat)) (W : World) : Prop where
  s : KZ w x0 x1 y0 y1 W
  one : ∀ g, g1 = some g → Z2 W g ∧ w.heap.size + 1 < g
  two : ∀ g, g2 = some g → Z2 W g ∧ w.heap.size + 1 < g
  ne : ∀ g h, g1 = some g → g2 = some h → g ≠ h
  a3 : ∀ x, r3 = some x → ∃ base, ZRes W base ma Ra (zoneV ((ma : Int) - 1) x.1 (rlen ma Ra) x.2)
  a6 : ∀ x, r6 = some x → ∃ base, ZRes W base mb Rb (zoneV ((mb : Int) - 1) x.1 (rlen mb Rb) x.2)
section
variable {w W W1 : World} {x0 x1 y0 y1 p q p2 q2 : Value} {ma mb : Nat} {Ra Rb : Option Mat} {g1 g2 : Option Nat} {r3 r6 : Option (Option Addr × Nat)} {g : Nat}
theorem Z2.lt (h : Z2 W g) : g < W.heap.size := let ⟨_, _, d⟩ := h; d.lt
theorem ST.below (h : ST w x0 x1 y0 y1 ma mb Ra Rb g1 g2 r3 r6 W) (hb : Below W.heap.size W W1) : ST w x0 x1 y0 y1 ma mb Ra Rb g1 g2 r3 r6 W1 :=
  ⟨kz_call hb h.s, fun g e => ⟨(h.one g e).1.below hb, (h.one g e).2⟩, fun g e => ⟨(h.two g e).1.below hb, (h.two g e).2⟩, h.ne, fun x e => let ⟨b, z⟩ := h.a3 x e; ⟨b, z.below hb⟩, fun x e => let ⟨b, z⟩ := h.a6 x e; ⟨b, z.below hb⟩⟩
theorem ST.dr (h : ST w x0 x1 y0 y1 ma mb Ra Rb g1 g2 r3 r6 W) : ST w x0 x1 y0 y1 ma mb Ra Rb g1 g2 r3 r6 W.drew := h.below (Below.refl _ _).drew
theorem ST.up (h : ST w x0 x1 y0 y1 ma mb Ra Rb g1 g2 r3 r6 W) (o : Obj) : ST w x0 x1 y0 y1 ma mb Ra Rb g1 g2 r3 r6 (W.alloc o) := h.below (zboxed W o)
theorem ST.mk1 (h : ST w x0 x1 y0 y1 ma mb Ra Rb none none r3 r6 W) : ST w x0 x1 y0 y1 ma mb Ra Rb (some W.heap.size) none r3 r6 (W.alloc (.cells #[p, q] 28)) :=
  have u := h.up (.cells #[p, q] 28)
  ⟨u.s, fun g e => by cases e; exact ⟨⟨p, q, Duo.new _ _ _ _⟩, h.s.2.1⟩, u.two, fun _ _ _ e => (by cases e), u.a3, u.a6⟩
theorem ST.mk2 (h : ST w x0 x1 y0 y1 ma mb Ra Rb (some g) none r3 r6 W) : ST w x0 x1 y0 y1 ma mb Ra Rb (some g) (some W.heap.size) r3 r6 (W.alloc (.cells #[p, q] 28)) :=
  have u := h.up (.cells #[p, q] 28)
  ⟨u.s, u.one, fun g e => by cases e; exact ⟨⟨p, q, Duo.new _ _ _ _⟩, h.s.2.1⟩, fun a b e1 e2 => by
    cases e1
    cases e2
    exact Nat.ne_of_lt (h.one _ rfl).1.lt, u.a3, u.a6⟩
theorem ST.mk1d (h : ST w x0 x1 y0 y1 ma mb Ra Rb none none r3 r6 W) : ST w x0 x1 y0 y1 ma mb Ra Rb (some W.heap.size) none r3 r6 (W.alloc (.cells #[p, q] 28)).drew := h.mk1.dr
theorem ST.mk2d (h : ST w x0 x1 y0 y1 ma mb Ra Rb (some g) none r3 r6 W) : ST w x0 x1 y0 y1 ma mb Ra Rb (some g) (some W.heap.size) r3 r6 (W.alloc (.cells #[p, q] 28)).drew := h.mk2.dr
theorem ST.mk12 (h : ST w x0 x1 y0 y1 ma mb Ra Rb none none r3 r6 W) : ST w x0 x1 y0 y1 ma mb Ra Rb (some W.heap.size) (some (W.heap.size + 1)) r3 r6 ((W.alloc (.cells #[p, q] 28)).drew.alloc (.cells #[p2, q2] 28)) := by
  have := (h.mk1d (p := p) (q := q)).mk2 (p := p2) (q := q2)
  rw [show (W.alloc (.cells #[p, q] 28)).drew.heap.size = W.heap.size + 1 from World.size_alloc _ _] at this
  exact this
theorem ST.mk12d (h : ST w x0 x1 y0 y1 ma mb Ra Rb none none r3 r6 W) : ST w x0 x1 y0 y1 ma mb Ra Rb (some W.heap.size) (some (W.heap.size + 1)) r3 r6 ((W.alloc (.cells #[p, q] 28)).drew.alloc (.cells #[p2, q2] 28)).drew := h.mk12.dr
theorem ST.mk12x (h : ST w x0 x1 y0 y1 ma mb Ra Rb none none r3 r6 W) : ST w x0 x1 y0 y1 ma mb Ra Rb (some W.heap.size) (some (W.heap.size + 1)) r3 r6 ((W.alloc (.cells #[p, q] 28)).alloc (.cells #[p2, q2] 28)) := by
  have := (h.mk1 (p := p) (q := q)).mk2 (p := p2) (q := q2)
  rw [show (W.alloc (.cells #[p, q] 28)).heap.size = W.heap.size + 1 from World.size_alloc _ _] at this
  exact this
theorem KZ.conj (h : KZ w x0 x1 y0 y1 W) : Below w.heap.size w W ∧ w.heap.size + 1 < W.heap.size ∧ W.cell? ⟨w.heap.size, 0, none⟩ = some x0 ∧ W.cell? ⟨w.heap.size, 1, none⟩ = some x1 ∧ W.cell? ⟨w.heap.size + 1, 0, none⟩ = some y0 ∧ W.cell? ⟨w.heap.size + 1, 1, none⟩ = some y1 := h
theorem kz_put {g : Nat} {u v : Value} (hg : w.heap.size + 1 < g) (h : KZ w x0 x1 y0 y1 W) : KZ w x0 x1 y0 y1 ((W.setCell ⟨g, 0, none⟩ u).setCell ⟨g, 1, none⟩ v) := kz_set v hg (kz_set u hg h)
theorem kz_putd {g : Nat} {u v : Value} (hg : w.heap.size + 1 < g) (h : KZ w x0 x1 y0 y1 W) : KZ w x0 x1 y0 y1 ((W.setCell ⟨g, 0, none⟩ u).setCell ⟨g, 1, none⟩ v).drew := kz_drew (kz_put hg h)
theorem of_st {N : Int} {A : Option Addr} {len cap : Nat} (h : ST w x0 x1 y0 y1 ma mb Ra Rb g1 g2 r3 r6 W) : Calls Tryd.prog 12 #[zoneV N A len cap] W fun e w' => e = .returned (zoneV N A len cap) ∧ ST w x0 x1 y0 y1 ma mb Ra Rb g1 g2 r3 r6 w' :=
  (of_zone W N A len cap).mono fun _ _ ⟨he, hb⟩ => ⟨he, h.below hb⟩
theorem meet3_st {u v : Value} (K : ∀ W, Below w.heap.size w W → Calls Tryd.prog 13 #[u, v] W (RetC W ma Ra)) (h : ST w x0 x1 y0 y1 ma mb Ra Rb g1 g2 none r6 W) : Calls Tryd.prog 13 #[u, v] W fun e w' => ∃ A c, e = .returned (zoneV ((ma : Int) - 1) A (rlen ma Ra) c) ∧ ST w x0 x1 y0 y1 ma mb Ra Rb g1 g2 (some (A, c)) r6 w' :=
  (K W h.s.1).mono fun _ _ ⟨A, c, he, hz, hb⟩ => ⟨A, c, he, (h.below hb).s, (h.below hb).one, (h.below hb).two, h.ne, fun x e => by cases e; exact ⟨_, hz⟩, (h.below hb).a6⟩
theorem meet6_st {u v : Value} (K : ∀ W, Below w.heap.size w W → Calls Tryd.prog 13 #[u, v] W (RetC W mb Rb)) (h : ST w x0 x1 y0 y1 ma mb Ra Rb g1 g2 r3 none W) : Calls Tryd.prog 13 #[u, v] W fun e w' => ∃ A c, e = .returned (zoneV ((mb : Int) - 1) A (rlen mb Rb) c) ∧ ST w x0 x1 y0 y1 ma mb Ra Rb g1 g2 r3 (some (A, c)) w' :=
  (K W h.s.1).mono fun _ _ ⟨A, c, he, hz, hb⟩ => ⟨A, c, he, (h.below hb).s, (h.below hb).one, (h.below hb).two, h.ne, (h.below hb).a3, fun x e => by cases e; exact ⟨_, hz⟩⟩
end

/-- Both right zones, in variables of their own. -/
def TwoAt (w : World) (g h ba bb ma mb : Nat) (Ra Rb : Option Mat) (A B : Option Addr) (c d : Nat) (W : World) : Prop :=
  Duo W g 28 (.int .i64 ((ma : Int) - 1)) (.slice A (rlen ma Ra) c) ∧ Duo W h 28 (.int .i64 ((mb : Int) - 1)) (.slice B (rlen mb Rb) d) ∧
    ZRes W ba ma Ra (zoneV ((ma : Int) - 1) A (rlen ma Ra) c) ∧ ZRes W bb mb Rb (zoneV ((mb : Int) - 1) B (rlen mb Rb) d) ∧ Below w.heap.size w W
def TwoZ (w : World) (ma mb : Nat) (Ra Rb : Option Mat) (s t : Value) (wx : World) : Prop := ∃ g h ba bb A B c d, s = .pointer (some ⟨g, 0, none⟩) ∧ t = .pointer (some ⟨h, 0, none⟩) ∧ TwoAt w g h ba bb ma mb Ra Rb A B c d wx
theorem TwoAt.below {w W W1 : World} {g h ba bb ma mb c d : Nat} {Ra Rb : Option Mat} {A B : Option Addr} (x : TwoAt w g h ba bb ma mb Ra Rb A B c d W) (hb : Below W.heap.size W W1) : TwoAt w g h ba bb ma mb Ra Rb A B c d W1 :=
  ⟨x.1.below hb, x.2.1.below hb, x.2.2.1.below hb, x.2.2.2.1.below hb, x.2.2.2.2.trans (hb.mono x.2.2.2.2.size)⟩
theorem TwoAt.drew {w W : World} {g h ba bb ma mb c d : Nat} {Ra Rb : Option Mat} {A B : Option Addr} (x : TwoAt w g h ba bb ma mb Ra Rb A B c d W) : TwoAt w g h ba bb ma mb Ra Rb A B c d W.drew := x.below (Below.refl _ _).drew
theorem TwoAt.cells {w W : World} {g h ba bb ma mb c d : Nat} {Ra Rb : Option Mat} {A B : Option Addr} (x : TwoAt w g h ba bb ma mb Ra Rb A B c d W) :
    W.cell? ⟨g, 0, none⟩ = some (.int .i64 ((ma : Int) - 1)) ∧ W.cell? ⟨g, 1, none⟩ = some (.slice A (rlen ma Ra) c) ∧ W.cell? ⟨h, 0, none⟩ = some (.int .i64 ((mb : Int) - 1)) ∧ W.cell? ⟨h, 1, none⟩ = some (.slice B (rlen mb Rb) d) := ⟨x.1.cell0, x.1.cell1, x.2.1.cell0, x.2.1.cell1⟩

section
variable {w W : World} {g h ba bb ma mb c d : Nat} {Ra Rb : Option Mat} {A B : Option Addr}
theorem p_same (h0 : 0 < ma) (h7 : ma ≤ 7) (g0 : 0 < mb) (g7 : mb ≤ 7) (x : TwoAt w g h ba bb ma mb Ra Rb A B c d W) {s : Bool} (hs : sameO ma mb Ra Rb = s) :
    Calls Tryd.prog 29 #[zoneV ((ma : Int) - 1) A (rlen ma Ra) c, zoneV ((mb : Int) - 1) B (rlen mb Rb) d] W (RetB W s) := by
  subst hs
  exact same_any h0 h7 (fun _ hW => close_back h0 h7 (x.2.2.1.below hW)) (fun _ hW => close_back g0 g7 (x.2.2.2.1.below hW))
theorem p_leq (h0 : 0 < ma) (h7 : ma ≤ 7) (g0 : 0 < mb) (g7 : mb ≤ 7) (x : TwoAt w g h ba bb ma mb Ra Rb A B c d W) {s : Bool} (hs : leqO ma mb Ra Rb = s) :
    Calls Tryd.prog 14 #[zoneV ((ma : Int) - 1) A (rlen ma Ra) c, zoneV ((mb : Int) - 1) B (rlen mb Rb) d] W (RetB W s) := by
  subst hs
  exact leq_any h0 h7 (fun _ hW => two_back h0 h7 g0 g7 ((x.2.2.1.below hW).lower (base' := 0) (Nat.zero_le _)) ((x.2.2.2.1.below hW).lower (Nat.zero_le _)))
theorem p_leq2 (h0 : 0 < ma) (h7 : ma ≤ 7) (g0 : 0 < mb) (g7 : mb ≤ 7) (x : TwoAt w g h ba bb ma mb Ra Rb A B c d W) {s : Bool} (hs : leqO mb ma Rb Ra = s) :
    Calls Tryd.prog 14 #[zoneV ((mb : Int) - 1) B (rlen mb Rb) d, zoneV ((ma : Int) - 1) A (rlen ma Ra) c] W (RetB W s) := by
  subst hs
  exact leq_any g0 g7 (fun _ hW => two_back (base := 0) g0 g7 h0 h7 ((x.2.2.2.1.below hW).lower (Nat.zero_le _)) ((x.2.2.1.below hW).lower (Nat.zero_le _)))
theorem p_join (h0 : 0 < ma) (h7 : ma ≤ 7) (g0 : 0 < mb) (g7 : mb ≤ 7) (x : TwoAt w g h ba bb ma mb Ra Rb A B c d W) :
    Calls Tryd.prog 11 #[zoneV ((ma : Int) - 1) A (rlen ma Ra) c, zoneV ((mb : Int) - 1) B (rlen mb Rb) d] W (RetC W (meM ma mb) (jnO ma mb Ra Rb)) :=
  join_any h0 h7 (fun _ hW => two_back (base := 0) h0 h7 g0 g7 ((x.2.2.1.below hW).lower (Nat.zero_le _)) ((x.2.2.2.1.below hW).lower (Nat.zero_le _)))
theorem p_join2 (h0 : 0 < ma) (h7 : ma ≤ 7) (g0 : 0 < mb) (g7 : mb ≤ 7) (x : TwoAt w g h ba bb ma mb Ra Rb A B c d W) :
    Calls Tryd.prog 11 #[zoneV ((mb : Int) - 1) B (rlen mb Rb) d, zoneV ((ma : Int) - 1) A (rlen ma Ra) c] W (RetC W (meM ma mb) (jnO ma mb Ra Rb)) := by
  rw [(join_comm ma mb Ra Rb).1, (join_comm ma mb Ra Rb).2]
  exact join_any g0 g7 (fun _ hW => two_back (base := 0) g0 g7 h0 h7 ((x.2.2.2.1.below hW).lower (Nat.zero_le _)) ((x.2.2.1.below hW).lower (Nat.zero_le _)))
theorem meM_bd (h0 : 0 < ma) (h7 : ma ≤ 7) : 0 < meM ma mb ∧ meM ma mb ≤ 7 := by unfold meM; split <;> omega
theorem p_same2 {m b1 b2 c1 c2 : Nat} {R : Option Mat} {A1 A2 : Option Addr} (h0 : 0 < m) (h7 : m ≤ 7) (x : ZRes W b1 m R (zoneV ((m : Int) - 1) A1 (rlen m R) c1)) (y : ZRes W b2 m R (zoneV ((m : Int) - 1) A2 (rlen m R) c2)) :
    Calls Tryd.prog 29 #[zoneV ((m : Int) - 1) A1 (rlen m R) c1, zoneV ((m : Int) - 1) A2 (rlen m R) c2] W (RetB W true) := by
  have h := same_any (w := W) h0 h7 (fun _ hW => close_back h0 h7 (x.below hW)) (fun _ hW => close_back h0 h7 (y.below hW))
  rw [same_self] at h
  exact h
end

section
variable {w W : World} {x0 x1 y0 y1 : Value} {ma mb g h c d : Nat} {Ra Rb : Option Mat} {A B : Option Addr}
theorem st_stores (hg : Z2 W g) (hh : Z2 W h) (hne : g ≠ h) (s t u v : Value) : Duo ((((W.setCell ⟨g, 0, none⟩ s).setCell ⟨g, 1, none⟩ t).setCell ⟨h, 0, none⟩ u).setCell ⟨h, 1, none⟩ v) g 28 s t ∧ Duo ((((W.setCell ⟨g, 0, none⟩ s).setCell ⟨g, 1, none⟩ t).setCell ⟨h, 0, none⟩ u).setCell ⟨h, 1, none⟩ v) h 28 u v :=
  ⟨((z2_put hg).other (by exact hne) _).other (by exact hne) _, z2_put ((hh.set _ _).set _ _)⟩
theorem st_zone {m base : Nat} {R : Option Mat} {v : Value} (hg : Z2 W g) (hh : Z2 W h) (hz : ZRes W base m R v) (s t u x : Value) : ZRes ((((W.setCell ⟨g, 0, none⟩ s).setCell ⟨g, 1, none⟩ t).setCell ⟨h, 0, none⟩ u).setCell ⟨h, 1, none⟩ x) base m R v :=
  (((hz.setZ2 (a := ⟨g, 0, none⟩) hg s).setZ2 (a := ⟨g, 1, none⟩) (hg.set _ _) t).setZ2 (a := ⟨h, 0, none⟩) ((hh.set _ _).set _ _) u).setZ2 (a := ⟨h, 1, none⟩) (((hh.set _ _).set _ _).set _ _) x
theorem st_low (hb : Below w.heap.size w W) (hg : w.heap.size + 1 < g) (hh : w.heap.size + 1 < h) (s t u x : Value) : Below w.heap.size w ((((W.setCell ⟨g, 0, none⟩ s).setCell ⟨g, 1, none⟩ t).setCell ⟨h, 0, none⟩ u).setCell ⟨h, 1, none⟩ x) :=
  (((hb.setCell (p := ⟨g, 0, none⟩) (by show w.heap.size ≤ g; omega) s).setCell (p := ⟨g, 1, none⟩) (by show w.heap.size ≤ g; omega) t).setCell (p := ⟨h, 0, none⟩) (by show w.heap.size ≤ h; omega) u).setCell (p := ⟨h, 1, none⟩) (by show w.heap.size ≤ h; omega) x
/-- x is the elder of the two new variables, or y; x's store comes first, or y's. -/
theorem st_end (S : ST w x0 x1 y0 y1 ma mb Ra Rb (some g) (some h) (some (A, c)) (some (B, d)) W) :
    TwoZ w ma mb Ra Rb (.pointer (some ⟨g, 0, none⟩)) (.pointer (some ⟨h, 0, none⟩)) ((((W.setCell ⟨g, 0, none⟩ (.int .i64 ((ma : Int) - 1))).setCell ⟨g, 1, none⟩ (.slice A (rlen ma Ra) c)).setCell ⟨h, 0, none⟩ (.int .i64 ((mb : Int) - 1))).setCell ⟨h, 1, none⟩ (.slice B (rlen mb Rb) d)) := by
  obtain ⟨z1, l1⟩ := S.one _ rfl
  obtain ⟨z2, l2⟩ := S.two _ rfl
  obtain ⟨ba, za⟩ := S.a3 _ rfl
  obtain ⟨bb, zb⟩ := S.a6 _ rfl
  have hs := st_stores z1 z2 (S.ne _ _ rfl rfl) (.int .i64 ((ma : Int) - 1)) (.slice A (rlen ma Ra) c) (.int .i64 ((mb : Int) - 1)) (.slice B (rlen mb Rb) d)
  exact ⟨g, h, ba, bb, A, B, c, d, rfl, rfl, hs.1, hs.2, st_zone z1 z2 za _ _ _ _, st_zone z1 z2 zb _ _ _ _, st_low S.s.1 l1 l2 _ _ _ _⟩
theorem st_end2 (S : ST w x0 x1 y0 y1 ma mb Ra Rb (some g) (some h) (some (A, c)) (some (B, d)) W) :
    TwoZ w ma mb Ra Rb (.pointer (some ⟨h, 0, none⟩)) (.pointer (some ⟨g, 0, none⟩)) ((((W.setCell ⟨h, 0, none⟩ (.int .i64 ((ma : Int) - 1))).setCell ⟨h, 1, none⟩ (.slice A (rlen ma Ra) c)).setCell ⟨g, 0, none⟩ (.int .i64 ((mb : Int) - 1))).setCell ⟨g, 1, none⟩ (.slice B (rlen mb Rb) d)) := by
  obtain ⟨z1, l1⟩ := S.one _ rfl
  obtain ⟨z2, l2⟩ := S.two _ rfl
  obtain ⟨ba, za⟩ := S.a3 _ rfl
  obtain ⟨bb, zb⟩ := S.a6 _ rfl
  have hs := st_stores z2 z1 (S.ne _ _ rfl rfl).symm (.int .i64 ((ma : Int) - 1)) (.slice A (rlen ma Ra) c) (.int .i64 ((mb : Int) - 1)) (.slice B (rlen mb Rb) d)
  exact ⟨h, g, ba, bb, A, B, c, d, rfl, rfl, hs.1, hs.2, st_zone z2 z1 za _ _ _ _, st_zone z2 z1 zb _ _ _ _, st_low S.s.1 l2 l1 _ _ _ _⟩
theorem sz2 (W : World) (a b : Addr) (u v : Value) : ((W.setCell a u).setCell b v).heap.size = W.heap.size := by simp [World.setCell]
theorem st_put (hg : Z2 W g) (hb : Below w.heap.size w W) (hl : w.heap.size + 1 < g) (s t : Value) (o : Obj) : Duo (((W.setCell ⟨g, 0, none⟩ s).setCell ⟨g, 1, none⟩ t).alloc o) g 28 s t ∧ Below w.heap.size w (((W.setCell ⟨g, 0, none⟩ s).setCell ⟨g, 1, none⟩ t).alloc o) :=
  ⟨(z2_put hg).alloc o, ((hb.setCell (p := ⟨g, 0, none⟩) (by show w.heap.size ≤ g; omega) s).setCell (p := ⟨g, 1, none⟩) (by show w.heap.size ≤ g; omega) t).alloc (by rw [sz2]; exact hb.size) o⟩
theorem st_put_zone {m base : Nat} {R : Option Mat} {v : Value} (hg : Z2 W g) (hz : ZRes W base m R v) (s t : Value) (o : Obj) : ZRes (((W.setCell ⟨g, 0, none⟩ s).setCell ⟨g, 1, none⟩ t).alloc o) base m R v :=
  ((hz.setZ2 (a := ⟨g, 0, none⟩) hg s).setZ2 (a := ⟨g, 1, none⟩) (hg.set _ _) t).below (zboxed _ _)
theorem st_end3 (S : ST w x0 x1 y0 y1 ma mb Ra Rb (some g) none (some (A, c)) (some (B, d)) W) :
    TwoZ w ma mb Ra Rb (.pointer (some ⟨g, 0, none⟩)) (.pointer (some ⟨W.heap.size, 0, none⟩)) (((W.setCell ⟨g, 0, none⟩ (.int .i64 ((ma : Int) - 1))).setCell ⟨g, 1, none⟩ (.slice A (rlen ma Ra) c)).alloc (.cells #[.int .i64 ((mb : Int) - 1), .slice B (rlen mb Rb) d] 28)) := by
  obtain ⟨z1, l1⟩ := S.one _ rfl
  obtain ⟨ba, za⟩ := S.a3 _ rfl
  obtain ⟨bb, zb⟩ := S.a6 _ rfl
  have hs := st_put z1 S.s.1 l1 (.int .i64 ((ma : Int) - 1)) (.slice A (rlen ma Ra) c) (.cells #[.int .i64 ((mb : Int) - 1), .slice B (rlen mb Rb) d] 28)
  exact ⟨g, W.heap.size, ba, bb, A, B, c, d, rfl, rfl, hs.1, duo_here (sz2 _ _ _ _ _), st_put_zone z1 za _ _ _, st_put_zone z1 zb _ _ _, hs.2⟩
theorem st_end4 (S : ST w x0 x1 y0 y1 ma mb Ra Rb (some g) none (some (A, c)) (some (B, d)) W) :
    TwoZ w ma mb Ra Rb (.pointer (some ⟨W.heap.size, 0, none⟩)) (.pointer (some ⟨g, 0, none⟩)) (((W.setCell ⟨g, 0, none⟩ (.int .i64 ((mb : Int) - 1))).setCell ⟨g, 1, none⟩ (.slice B (rlen mb Rb) d)).alloc (.cells #[.int .i64 ((ma : Int) - 1), .slice A (rlen ma Ra) c] 28)) := by
  obtain ⟨z1, l1⟩ := S.one _ rfl
  obtain ⟨ba, za⟩ := S.a3 _ rfl
  obtain ⟨bb, zb⟩ := S.a6 _ rfl
  have hs := st_put z1 S.s.1 l1 (.int .i64 ((mb : Int) - 1)) (.slice B (rlen mb Rb) d) (.cells #[.int .i64 ((ma : Int) - 1), .slice A (rlen ma Ra) c] 28)
  exact ⟨W.heap.size, g, ba, bb, A, B, c, d, rfl, rfl, duo_here (sz2 _ _ _ _ _), hs.1, st_put_zone z1 za _ _ _, st_put_zone z1 zb _ _ _, hs.2⟩
theorem st_end5 (S : ST w x0 x1 y0 y1 ma mb Ra Rb none none (some (A, c)) (some (B, d)) W) :
    TwoZ w ma mb Ra Rb (.pointer (some ⟨W.heap.size, 0, none⟩)) (.pointer (some ⟨W.heap.size + 1, 0, none⟩)) ((W.alloc (.cells #[.int .i64 ((ma : Int) - 1), .slice A (rlen ma Ra) c] 28)).alloc (.cells #[.int .i64 ((mb : Int) - 1), .slice B (rlen mb Rb) d] 28)) := by
  obtain ⟨ba, za⟩ := S.a3 _ rfl
  obtain ⟨bb, zb⟩ := S.a6 _ rfl
  exact ⟨W.heap.size, W.heap.size + 1, ba, bb, A, B, c, d, rfl, rfl, (Duo.new _ _ _ _).alloc _, duo_here (World.size_alloc _ _), (za.below (zboxed _ _)).below (zboxed _ _), (zb.below (zboxed _ _)).below (zboxed _ _), (S.s.1.alloc S.s.1.size _).alloc (by rw [World.size_alloc]; have := S.s.1.size; omega) _⟩
theorem st_end6 (S : ST w x0 x1 y0 y1 ma mb Ra Rb none none (some (A, c)) (some (B, d)) W) :
    TwoZ w ma mb Ra Rb (.pointer (some ⟨W.heap.size + 1, 0, none⟩)) (.pointer (some ⟨W.heap.size, 0, none⟩)) ((W.alloc (.cells #[.int .i64 ((mb : Int) - 1), .slice B (rlen mb Rb) d] 28)).alloc (.cells #[.int .i64 ((ma : Int) - 1), .slice A (rlen ma Ra) c] 28)) := by
  obtain ⟨ba, za⟩ := S.a3 _ rfl
  obtain ⟨bb, zb⟩ := S.a6 _ rfl
  exact ⟨W.heap.size + 1, W.heap.size, ba, bb, A, B, c, d, rfl, rfl, duo_here (World.size_alloc _ _), (Duo.new _ _ _ _).alloc _, (za.below (zboxed _ _)).below (zboxed _ _), (zb.below (zboxed _ _)).below (zboxed _ _), (S.s.1.alloc S.s.1.size _).alloc (by rw [World.size_alloc]; have := S.s.1.size; omega) _⟩
theorem TwoZ.dr {s t : Value} (x : TwoZ w ma mb Ra Rb s t W) : TwoZ w ma mb Ra Rb s t W.drew := by
  obtain ⟨g, h, ba, bb, A, B, c, d, e1, e2, k⟩ := x
  exact ⟨g, h, ba, bb, A, B, c, d, e1, e2, k.drew⟩
end
end Go.Proofs.YtjolpplghokngaaDoor
