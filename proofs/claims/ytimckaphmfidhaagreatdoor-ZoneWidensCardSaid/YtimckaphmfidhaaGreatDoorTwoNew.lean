/- What stands between the calls of a region that makes two new variables. -/
import Derived.Test.YtimckaphmfidhaaGreatDoorGRef
import Derived.Test.YtimckaphmfidhaaGreatDoorZAlive
import Derived.BigRegion
namespace Go.Proofs.YtimckaphmfidhaaGreatDoor.Nr
open Go.RowKit
section
variable {B W W1 : World} {p q : Nat} {x0 x1 y0 y1 u0 u1 v0 v1 : Value}
theorem kb_call (hb : Below W.heap.size W W1) (h : Below B.heap.size B (W) ∧ (W).cell? ⟨p, 0, none⟩ = some x0 ∧ (W).cell? ⟨p, 1, none⟩ = some x1 ∧ (W).cell? ⟨q, 0, none⟩ = some y0 ∧ (W).cell? ⟨q, 1, none⟩ = some y1 ∧ p < B.heap.size ∧ q < B.heap.size) : Below B.heap.size B (W1) ∧ (W1).cell? ⟨p, 0, none⟩ = some x0 ∧ (W1).cell? ⟨p, 1, none⟩ = some x1 ∧ (W1).cell? ⟨q, 0, none⟩ = some y0 ∧ (W1).cell? ⟨q, 1, none⟩ = some y1 ∧ p < B.heap.size ∧ q < B.heap.size := by
  obtain ⟨h0, h1, h2, h3, h4, h5, h6⟩ := h
  have hs := h0.size
  exact ⟨h0.trans (hb.mono h0.size), (hb.cell (p := ⟨p, 0, none⟩) (by show p < _; omega)).trans h1, (hb.cell (p := ⟨p, 1, none⟩) (by show p < _; omega)).trans h2, (hb.cell (p := ⟨q, 0, none⟩) (by show q < _; omega)).trans h3, (hb.cell (p := ⟨q, 1, none⟩) (by show q < _; omega)).trans h4, h5, h6⟩
theorem kb_alloc (o : Obj) (h : Below B.heap.size B (W) ∧ (W).cell? ⟨p, 0, none⟩ = some x0 ∧ (W).cell? ⟨p, 1, none⟩ = some x1 ∧ (W).cell? ⟨q, 0, none⟩ = some y0 ∧ (W).cell? ⟨q, 1, none⟩ = some y1 ∧ p < B.heap.size ∧ q < B.heap.size) : Below B.heap.size B (W.alloc o) ∧ (W.alloc o).cell? ⟨p, 0, none⟩ = some x0 ∧ (W.alloc o).cell? ⟨p, 1, none⟩ = some x1 ∧ (W.alloc o).cell? ⟨q, 0, none⟩ = some y0 ∧ (W.alloc o).cell? ⟨q, 1, none⟩ = some y1 ∧ p < B.heap.size ∧ q < B.heap.size := kb_call (zboxed W o) h
theorem kb_drew (h : Below B.heap.size B (W) ∧ (W).cell? ⟨p, 0, none⟩ = some x0 ∧ (W).cell? ⟨p, 1, none⟩ = some x1 ∧ (W).cell? ⟨q, 0, none⟩ = some y0 ∧ (W).cell? ⟨q, 1, none⟩ = some y1 ∧ p < B.heap.size ∧ q < B.heap.size) : Below B.heap.size B (W.drew) ∧ (W.drew).cell? ⟨p, 0, none⟩ = some x0 ∧ (W.drew).cell? ⟨p, 1, none⟩ = some x1 ∧ (W.drew).cell? ⟨q, 0, none⟩ = some y0 ∧ (W.drew).cell? ⟨q, 1, none⟩ = some y1 ∧ p < B.heap.size ∧ q < B.heap.size := kb_call (Below.refl _ _).drew h
theorem kb_set {a : Addr} (u : Value) (ha : B.heap.size ≤ a.block) (h : Below B.heap.size B (W) ∧ (W).cell? ⟨p, 0, none⟩ = some x0 ∧ (W).cell? ⟨p, 1, none⟩ = some x1 ∧ (W).cell? ⟨q, 0, none⟩ = some y0 ∧ (W).cell? ⟨q, 1, none⟩ = some y1 ∧ p < B.heap.size ∧ q < B.heap.size) : Below B.heap.size B (W.setCell a u) ∧ (W.setCell a u).cell? ⟨p, 0, none⟩ = some x0 ∧ (W.setCell a u).cell? ⟨p, 1, none⟩ = some x1 ∧ (W.setCell a u).cell? ⟨q, 0, none⟩ = some y0 ∧ (W.setCell a u).cell? ⟨q, 1, none⟩ = some y1 ∧ p < B.heap.size ∧ q < B.heap.size := by
  obtain ⟨h0, h1, h2, h3, h4, h5, h6⟩ := h
  refine ⟨h0.setCell ha u, ?_, ?_, ?_, ?_, h5, h6⟩
  · rw [World.cell?_setCell_other W a ⟨p, 0, none⟩ u (fun e => by rw [e] at ha; dsimp only at ha; omega)]; exact h1
  · rw [World.cell?_setCell_other W a ⟨p, 1, none⟩ u (fun e => by rw [e] at ha; dsimp only at ha; omega)]; exact h2
  · rw [World.cell?_setCell_other W a ⟨q, 0, none⟩ u (fun e => by rw [e] at ha; dsimp only at ha; omega)]; exact h3
  · rw [World.cell?_setCell_other W a ⟨q, 1, none⟩ u (fun e => by rw [e] at ha; dsimp only at ha; omega)]; exact h4
end
theorem duo_here {Y : World} {g : Nat} {p q : Value} (hg : Y.heap.size = g) : Duo (Y.alloc (.cells #[p, q] 24)) g 24 p q := by
  subst hg; exact Duo.new _ _ _ _
/-- Block g holds two variables, whatever they hold. -/
def Z2 (W : World) (g : Nat) : Prop := ∃ p q : Value, Duo W g 24 p q
theorem Z2.below {W W' : World} {g : Nat} (h : Z2 W g) (hb : Below W.heap.size W W') : Z2 W' g := let ⟨p, q, d⟩ := h; ⟨p, q, d.below hb⟩
theorem Z2.lt {W : World} {g : Nat} (h : Z2 W g) : g < W.heap.size := let ⟨_, _, d⟩ := h; d.lt
theorem Z2.put {W : World} {g : Nat} {x y : Value} (h : Z2 W g) : Duo ((W.setCell ⟨g, 0, none⟩ x).setCell ⟨g, 1, none⟩ y) g 24 x y := let ⟨_, _, d⟩ := h; (d.set0 x).set1 y
theorem Z2.other {W : World} {g : Nat} (h : Z2 W g) {a : Addr} (hne : g ≠ a.block) (u : Value) : Z2 (W.setCell a u) g := let ⟨p, q, d⟩ := h; ⟨p, q, d.other hne u⟩
theorem zput {W : World} {base m g : Nat} {R : Option Mat} {v : Value} (h : ZRes W base m R v) (hd : Z2 W g) (s t : Value) : ZRes ((W.setCell ⟨g, 0, none⟩ s).setCell ⟨g, 1, none⟩ t) base m R v := by
  cases R with
  | none => exact h
  | some C =>
    obtain ⟨hc, g', cap, e, ho⟩ := h
    obtain ⟨p, q, d⟩ := hd
    have o1 := ho.kept (duo_grown_setCell W ⟨g, 0, none⟩ s) (.inr (d.not_row (by decide) ho).symm)
    have o2 := o1.kept (duo_grown_setCell _ ⟨g, 1, none⟩ t) (.inr ((d.set0 s).not_row (by decide) o1).symm)
    exact ⟨hc, g', cap, e, o2⟩
def KB (B : World) (p q : Nat) (x0 x1 y0 y1 : Value) (W : World) : Prop := Below B.heap.size B (W) ∧ (W).cell? ⟨p, 0, none⟩ = some x0 ∧ (W).cell? ⟨p, 1, none⟩ = some x1 ∧ (W).cell? ⟨q, 0, none⟩ = some y0 ∧ (W).cell? ⟨q, 1, none⟩ = some y1 ∧ p < B.heap.size ∧ q < B.heap.size
theorem KB.conj {B W : World} {p q : Nat} {x0 x1 y0 y1 : Value} (h : KB B p q x0 x1 y0 y1 W) : Below B.heap.size B (W) ∧ (W).cell? ⟨p, 0, none⟩ = some x0 ∧ (W).cell? ⟨p, 1, none⟩ = some x1 ∧ (W).cell? ⟨q, 0, none⟩ = some y0 ∧ (W).cell? ⟨q, 1, none⟩ = some y1 ∧ p < B.heap.size ∧ q < B.heap.size := h
/-- Between the calls: what is loaded; the new variables that there are; what the calls made. -/
structure ST (B : World) (p q : Nat) (x0 x1 y0 y1 : Value) (ma mb : Nat) (Ra Rb : Option Mat) (g1 g2 : Option Nat) (r3 r6 : Option (Option Addr × Nat)) (W : World) : Prop where
  s : KB B p q x0 x1 y0 y1 W
  one : ∀ g, g1 = some g → Z2 W g ∧ B.heap.size ≤ g
  two : ∀ g, g2 = some g → Z2 W g ∧ B.heap.size ≤ g
  ne : ∀ g h, g1 = some g → g2 = some h → g ≠ h
  a3 : ∀ x, r3 = some x → ∃ base, ZRes W base ma Ra (zoneV ((ma : Int) - 1) x.1 (rlen ma Ra) x.2)
  a6 : ∀ x, r6 = some x → ∃ base, ZRes W base mb Rb (zoneV ((mb : Int) - 1) x.1 (rlen mb Rb) x.2)
section
variable {B W W1 : World} {p q : Nat} {x0 x1 y0 y1 u0 u1 v0 v1 : Value} {ma mb : Nat} {Ra Rb : Option Mat} {g1 g2 : Option Nat} {r3 r6 : Option (Option Addr × Nat)} {g : Nat}
theorem st_new (h : KB B p q x0 x1 y0 y1 W) : ST B p q x0 x1 y0 y1 ma mb Ra Rb none none none none W := ⟨h, fun _ e => (by cases e), fun _ e => (by cases e), fun _ _ e => (by cases e), fun _ e => (by cases e), fun _ e => (by cases e)⟩
theorem ST.below (h : ST B p q x0 x1 y0 y1 ma mb Ra Rb g1 g2 r3 r6 W) (hb : Below W.heap.size W W1) : ST B p q x0 x1 y0 y1 ma mb Ra Rb g1 g2 r3 r6 W1 :=
  ⟨kb_call hb h.s, fun g e => ⟨(h.one g e).1.below hb, (h.one g e).2⟩, fun g e => ⟨(h.two g e).1.below hb, (h.two g e).2⟩, h.ne, fun x e => let ⟨b, z⟩ := h.a3 x e; ⟨b, z.below hb⟩, fun x e => let ⟨b, z⟩ := h.a6 x e; ⟨b, z.below hb⟩⟩
theorem ST.dr (h : ST B p q x0 x1 y0 y1 ma mb Ra Rb g1 g2 r3 r6 W) : ST B p q x0 x1 y0 y1 ma mb Ra Rb g1 g2 r3 r6 W.drew := h.below (Below.refl _ _).drew
theorem ST.up (h : ST B p q x0 x1 y0 y1 ma mb Ra Rb g1 g2 r3 r6 W) (o : Obj) : ST B p q x0 x1 y0 y1 ma mb Ra Rb g1 g2 r3 r6 (W.alloc o) := h.below (zboxed W o)
theorem ST.mk1 (h : ST B p q x0 x1 y0 y1 ma mb Ra Rb none none r3 r6 W) : ST B p q x0 x1 y0 y1 ma mb Ra Rb (some W.heap.size) none r3 r6 (W.alloc (.cells #[u0, u1] 24)) :=
  have u := h.up (.cells #[u0, u1] 24)
  ⟨u.s, fun g e => by cases e; exact ⟨⟨u0, u1, Duo.new _ _ _ _⟩, h.s.1.size⟩, u.two, fun _ _ _ e => (by cases e), u.a3, u.a6⟩
theorem ST.mk2 (h : ST B p q x0 x1 y0 y1 ma mb Ra Rb (some g) none r3 r6 W) : ST B p q x0 x1 y0 y1 ma mb Ra Rb (some g) (some W.heap.size) r3 r6 (W.alloc (.cells #[u0, u1] 24)) :=
  have u := h.up (.cells #[u0, u1] 24)
  ⟨u.s, u.one, fun g e => by cases e; exact ⟨⟨u0, u1, Duo.new _ _ _ _⟩, h.s.1.size⟩, fun a b e1 e2 => by
    cases e1
    cases e2
    exact Nat.ne_of_lt (h.one _ rfl).1.lt, u.a3, u.a6⟩
theorem ST.mka {h2 : Option Nat} (h : ST B p q x0 x1 y0 y1 ma mb Ra Rb none h2 r3 r6 W) : ST B p q x0 x1 y0 y1 ma mb Ra Rb (some W.heap.size) h2 r3 r6 (W.alloc (.cells #[u0, u1] 24)) :=
  have u := h.up (.cells #[u0, u1] 24)
  ⟨u.s, fun g e => by cases e; exact ⟨⟨u0, u1, Duo.new _ _ _ _⟩, h.s.1.size⟩, u.two, fun a b e1 e2 => by
    cases e1
    exact (Nat.ne_of_lt (h.two _ e2).1.lt).symm, u.a3, u.a6⟩
theorem ST.mkb {h1 : Option Nat} (h : ST B p q x0 x1 y0 y1 ma mb Ra Rb h1 none r3 r6 W) : ST B p q x0 x1 y0 y1 ma mb Ra Rb h1 (some W.heap.size) r3 r6 (W.alloc (.cells #[u0, u1] 24)) :=
  have u := h.up (.cells #[u0, u1] 24)
  ⟨u.s, u.one, fun g e => by cases e; exact ⟨⟨u0, u1, Duo.new _ _ _ _⟩, h.s.1.size⟩, fun a b e1 e2 => by
    cases e2
    exact Nat.ne_of_lt (h.one _ e1).1.lt, u.a3, u.a6⟩
theorem ST.mk1d (h : ST B p q x0 x1 y0 y1 ma mb Ra Rb none none r3 r6 W) : ST B p q x0 x1 y0 y1 ma mb Ra Rb (some W.heap.size) none r3 r6 (W.alloc (.cells #[u0, u1] 24)).drew := h.mk1.dr
theorem ST.mk12x (h : ST B p q x0 x1 y0 y1 ma mb Ra Rb none none r3 r6 W) : ST B p q x0 x1 y0 y1 ma mb Ra Rb (some W.heap.size) (some (W.heap.size + 1)) r3 r6 ((W.alloc (.cells #[u0, u1] 24)).alloc (.cells #[v0, v1] 24)) := by
  have := (h.mk1 (u0 := u0) (u1 := u1)).mk2 (u0 := v0) (u1 := v1)
  rw [show (W.alloc (.cells #[u0, u1] 24)).heap.size = W.heap.size + 1 from World.size_alloc _ _] at this
  exact this
theorem ST.mk12 (h : ST B p q x0 x1 y0 y1 ma mb Ra Rb none none r3 r6 W) : ST B p q x0 x1 y0 y1 ma mb Ra Rb (some W.heap.size) (some (W.heap.size + 1)) r3 r6 ((W.alloc (.cells #[u0, u1] 24)).drew.alloc (.cells #[v0, v1] 24)) := by
  have := (h.mk1d (u0 := u0) (u1 := u1)).mk2 (u0 := v0) (u1 := v1)
  rw [show (W.alloc (.cells #[u0, u1] 24)).drew.heap.size = W.heap.size + 1 from World.size_alloc _ _] at this
  exact this
/-- A call that makes nothing of these. -/
theorem st_any {fn : FuncId} {args : Array Value} {r : Value} (K : ∀ W, Below B.heap.size B W → Calls Tryz.prog fn args W fun e w' => e = .returned r ∧ Below W.heap.size W w') (h : ST B p q x0 x1 y0 y1 ma mb Ra Rb g1 g2 r3 r6 W) : Calls Tryz.prog fn args W fun e w' => e = .returned r ∧ ST B p q x0 x1 y0 y1 ma mb Ra Rb g1 g2 r3 r6 w' :=
  (K W h.s.1).mono fun _ _ ⟨he, hb⟩ => ⟨he, h.below hb⟩
theorem st_one {fn : FuncId} {args : Array Value} (K : ∀ W, Below B.heap.size B W → Calls Tryz.prog fn args W (RetC W ma Ra)) (h : ST B p q x0 x1 y0 y1 ma mb Ra Rb g1 g2 none r6 W) : Calls Tryz.prog fn args W fun e w' => ∃ A c, e = .returned (zoneV ((ma : Int) - 1) A (rlen ma Ra) c) ∧ ST B p q x0 x1 y0 y1 ma mb Ra Rb g1 g2 (some (A, c)) r6 w' :=
  (K W h.s.1).mono fun _ _ ⟨A, c, he, hz, hb⟩ => ⟨A, c, he, (h.below hb).s, (h.below hb).one, (h.below hb).two, h.ne, fun x e => by cases e; exact ⟨_, hz⟩, (h.below hb).a6⟩
theorem st_two {fn : FuncId} {args : Array Value} (K : ∀ W, Below B.heap.size B W → Calls Tryz.prog fn args W (RetC W mb Rb)) (h : ST B p q x0 x1 y0 y1 ma mb Ra Rb g1 g2 r3 none W) : Calls Tryz.prog fn args W fun e w' => ∃ A c, e = .returned (zoneV ((mb : Int) - 1) A (rlen mb Rb) c) ∧ ST B p q x0 x1 y0 y1 ma mb Ra Rb g1 g2 r3 (some (A, c)) w' :=
  (K W h.s.1).mono fun _ _ ⟨A, c, he, hz, hb⟩ => ⟨A, c, he, (h.below hb).s, (h.below hb).one, (h.below hb).two, h.ne, (h.below hb).a3, fun x e => by cases e; exact ⟨_, hz⟩⟩
end
/-- Both zones, in variables of their own. -/
structure TwoN (B : World) (ma mb : Nat) (Ra Rb : Option Mat) (s t : Value) (W : World) (g h ba bb : Nat) (A D : Option Addr) (c d : Nat) : Prop where
  es : s = .pointer (some ⟨g, 0, none⟩)
  et : t = .pointer (some ⟨h, 0, none⟩)
  dg : Duo W g 24 (.int .i64 ((ma : Int) - 1)) (.slice A (rlen ma Ra) c)
  dh : Duo W h 24 (.int .i64 ((mb : Int) - 1)) (.slice D (rlen mb Rb) d)
  za : ZRes W ba ma Ra (zoneV ((ma : Int) - 1) A (rlen ma Ra) c)
  zb : ZRes W bb mb Rb (zoneV ((mb : Int) - 1) D (rlen mb Rb) d)
  low : Below B.heap.size B W
def Two (B : World) (ma mb : Nat) (Ra Rb : Option Mat) (s t : Value) (W : World) : Prop := ∃ g h ba bb A D c d, TwoN B ma mb Ra Rb s t W g h ba bb A D c d
section
variable {B W W1 : World} {p q : Nat} {x0 x1 y0 y1 s t : Value} {ma mb g h c d : Nat} {Ra Rb : Option Mat} {A D : Option Addr}
theorem TwoN.below {ba bb : Nat} (x : TwoN B ma mb Ra Rb s t W g h ba bb A D c d) (hb : Below W.heap.size W W1) : TwoN B ma mb Ra Rb s t W1 g h ba bb A D c d :=
  ⟨x.es, x.et, x.dg.below hb, x.dh.below hb, x.za.below hb, x.zb.below hb, x.low.trans (hb.mono x.low.size)⟩
theorem Two.dr (x : Two B ma mb Ra Rb s t W) : Two B ma mb Ra Rb s t W.drew := let ⟨g, h, ba, bb, A, D, c, d, k⟩ := x; ⟨g, h, ba, bb, A, D, c, d, k.below (Below.refl _ _).drew⟩
theorem low2 (hb : Below B.heap.size B W) (hg : B.heap.size ≤ g) (s t : Value) : Below B.heap.size B ((W.setCell ⟨g, 0, none⟩ s).setCell ⟨g, 1, none⟩ t) := (hb.setCell (p := ⟨g, 0, none⟩) hg s).setCell (p := ⟨g, 1, none⟩) hg t
theorem sz2 (W : World) (a b : Addr) (u v : Value) : ((W.setCell a u).setCell b v).heap.size = W.heap.size := by simp [World.setCell]
theorem st_end (S : ST B p q x0 x1 y0 y1 ma mb Ra Rb (some g) (some h) (some (A, c)) (some (D, d)) W) :
    Two B ma mb Ra Rb (.pointer (some ⟨g, 0, none⟩)) (.pointer (some ⟨h, 0, none⟩)) ((((W.setCell ⟨g, 0, none⟩ (.int .i64 ((ma : Int) - 1))).setCell ⟨g, 1, none⟩ (.slice A (rlen ma Ra) c)).setCell ⟨h, 0, none⟩ (.int .i64 ((mb : Int) - 1))).setCell ⟨h, 1, none⟩ (.slice D (rlen mb Rb) d)) := by
  obtain ⟨z1, l1⟩ := S.one _ rfl
  obtain ⟨z2, l2⟩ := S.two _ rfl
  obtain ⟨ba, za⟩ := S.a3 _ rfl
  obtain ⟨bb, zb⟩ := S.a6 _ rfl
  have hne := S.ne _ _ rfl rfl
  have k2 := (z2.other (a := ⟨g, 0, none⟩) hne.symm (.int .i64 ((ma : Int) - 1))).other (a := ⟨g, 1, none⟩) hne.symm (.slice A (rlen ma Ra) c)
  exact ⟨g, h, ba, bb, A, D, c, d, rfl, rfl, (z1.put.other hne _).other hne _, k2.put, zput (zput za z1 _ _) k2 _ _, zput (zput zb z1 _ _) k2 _ _, low2 (low2 S.s.1 l1 _ _) l2 _ _⟩
theorem st_end2 (S : ST B p q x0 x1 y0 y1 ma mb Ra Rb (some g) (some h) (some (A, c)) (some (D, d)) W) :
    Two B ma mb Ra Rb (.pointer (some ⟨h, 0, none⟩)) (.pointer (some ⟨g, 0, none⟩)) ((((W.setCell ⟨h, 0, none⟩ (.int .i64 ((ma : Int) - 1))).setCell ⟨h, 1, none⟩ (.slice A (rlen ma Ra) c)).setCell ⟨g, 0, none⟩ (.int .i64 ((mb : Int) - 1))).setCell ⟨g, 1, none⟩ (.slice D (rlen mb Rb) d)) := by
  obtain ⟨z1, l1⟩ := S.one _ rfl
  obtain ⟨z2, l2⟩ := S.two _ rfl
  obtain ⟨ba, za⟩ := S.a3 _ rfl
  obtain ⟨bb, zb⟩ := S.a6 _ rfl
  have hne := S.ne _ _ rfl rfl
  have k1 := (z1.other (a := ⟨h, 0, none⟩) hne (.int .i64 ((ma : Int) - 1))).other (a := ⟨h, 1, none⟩) hne (.slice A (rlen ma Ra) c)
  exact ⟨h, g, ba, bb, A, D, c, d, rfl, rfl, (z2.put.other hne.symm _).other hne.symm _, k1.put, zput (zput za z2 _ _) k1 _ _, zput (zput zb z2 _ _) k1 _ _, low2 (low2 S.s.1 l2 _ _) l1 _ _⟩
theorem st_end3 (S : ST B p q x0 x1 y0 y1 ma mb Ra Rb (some g) none (some (A, c)) (some (D, d)) W) :
    Two B ma mb Ra Rb (.pointer (some ⟨g, 0, none⟩)) (.pointer (some ⟨W.heap.size, 0, none⟩)) (((W.setCell ⟨g, 0, none⟩ (.int .i64 ((ma : Int) - 1))).setCell ⟨g, 1, none⟩ (.slice A (rlen ma Ra) c)).alloc (.cells #[.int .i64 ((mb : Int) - 1), .slice D (rlen mb Rb) d] 24)) := by
  obtain ⟨z1, l1⟩ := S.one _ rfl
  obtain ⟨ba, za⟩ := S.a3 _ rfl
  obtain ⟨bb, zb⟩ := S.a6 _ rfl
  have lw := low2 S.s.1 l1 (.int .i64 ((ma : Int) - 1)) (.slice A (rlen ma Ra) c)
  exact ⟨g, W.heap.size, ba, bb, A, D, c, d, rfl, rfl, z1.put.alloc _, duo_here (sz2 _ _ _ _ _), (zput za z1 _ _).below (zboxed _ _), (zput zb z1 _ _).below (zboxed _ _), lw.alloc lw.size _⟩
theorem st_end4 (S : ST B p q x0 x1 y0 y1 ma mb Ra Rb (some g) none (some (A, c)) (some (D, d)) W) :
    Two B ma mb Ra Rb (.pointer (some ⟨W.heap.size, 0, none⟩)) (.pointer (some ⟨g, 0, none⟩)) (((W.setCell ⟨g, 0, none⟩ (.int .i64 ((mb : Int) - 1))).setCell ⟨g, 1, none⟩ (.slice D (rlen mb Rb) d)).alloc (.cells #[.int .i64 ((ma : Int) - 1), .slice A (rlen ma Ra) c] 24)) := by
  obtain ⟨z1, l1⟩ := S.one _ rfl
  obtain ⟨ba, za⟩ := S.a3 _ rfl
  obtain ⟨bb, zb⟩ := S.a6 _ rfl
  have lw := low2 S.s.1 l1 (.int .i64 ((mb : Int) - 1)) (.slice D (rlen mb Rb) d)
  exact ⟨W.heap.size, g, ba, bb, A, D, c, d, rfl, rfl, duo_here (sz2 _ _ _ _ _), z1.put.alloc _, (zput za z1 _ _).below (zboxed _ _), (zput zb z1 _ _).below (zboxed _ _), lw.alloc lw.size _⟩
theorem st_end5 (S : ST B p q x0 x1 y0 y1 ma mb Ra Rb none none (some (A, c)) (some (D, d)) W) :
    Two B ma mb Ra Rb (.pointer (some ⟨W.heap.size, 0, none⟩)) (.pointer (some ⟨W.heap.size + 1, 0, none⟩)) ((W.alloc (.cells #[.int .i64 ((ma : Int) - 1), .slice A (rlen ma Ra) c] 24)).alloc (.cells #[.int .i64 ((mb : Int) - 1), .slice D (rlen mb Rb) d] 24)) := by
  obtain ⟨ba, za⟩ := S.a3 _ rfl
  obtain ⟨bb, zb⟩ := S.a6 _ rfl
  exact ⟨W.heap.size, W.heap.size + 1, ba, bb, A, D, c, d, rfl, rfl, (Duo.new _ _ _ _).alloc _, duo_here (World.size_alloc _ _), (za.below (zboxed _ _)).below (zboxed _ _), (zb.below (zboxed _ _)).below (zboxed _ _), (S.s.1.alloc S.s.1.size _).alloc (by rw [World.size_alloc]; have := S.s.1.size; omega) _⟩
theorem st_end6 (S : ST B p q x0 x1 y0 y1 ma mb Ra Rb none none (some (A, c)) (some (D, d)) W) :
    Two B ma mb Ra Rb (.pointer (some ⟨W.heap.size + 1, 0, none⟩)) (.pointer (some ⟨W.heap.size, 0, none⟩)) ((W.alloc (.cells #[.int .i64 ((mb : Int) - 1), .slice D (rlen mb Rb) d] 24)).alloc (.cells #[.int .i64 ((ma : Int) - 1), .slice A (rlen ma Ra) c] 24)) := by
  obtain ⟨ba, za⟩ := S.a3 _ rfl
  obtain ⟨bb, zb⟩ := S.a6 _ rfl
  exact ⟨W.heap.size + 1, W.heap.size, ba, bb, A, D, c, d, rfl, rfl, duo_here (World.size_alloc _ _), (Duo.new _ _ _ _).alloc _, (za.below (zboxed _ _)).below (zboxed _ _), (zb.below (zboxed _ _)).below (zboxed _ _), (S.s.1.alloc S.s.1.size _).alloc (by rw [World.size_alloc]; have := S.s.1.size; omega) _⟩
end
end Go.Proofs.YtimckaphmfidhaaGreatDoor.Nr
namespace Go.Proofs.YtimckaphmfidhaaGreatDoor.Nz
open Go.RowKit
section
variable {B W W1 : World} {p q : Nat} {x0 x1 y0 y1 u0 u1 v0 v1 : Value}
theorem kb_call (hb : Below W.heap.size W W1) (h : Below B.heap.size B (W) ∧ (W).cell? ⟨p, 0, none⟩ = some x0 ∧ (W).cell? ⟨p, 1, none⟩ = some x1 ∧ (W).cell? ⟨q, 0, none⟩ = some y0 ∧ (W).cell? ⟨q, 1, none⟩ = some y1 ∧ p < B.heap.size ∧ q < B.heap.size) : Below B.heap.size B (W1) ∧ (W1).cell? ⟨p, 0, none⟩ = some x0 ∧ (W1).cell? ⟨p, 1, none⟩ = some x1 ∧ (W1).cell? ⟨q, 0, none⟩ = some y0 ∧ (W1).cell? ⟨q, 1, none⟩ = some y1 ∧ p < B.heap.size ∧ q < B.heap.size := by
  obtain ⟨h0, h1, h2, h3, h4, h5, h6⟩ := h
  have hs := h0.size
  exact ⟨h0.trans (hb.mono h0.size), (hb.cell (p := ⟨p, 0, none⟩) (by show p < _; omega)).trans h1, (hb.cell (p := ⟨p, 1, none⟩) (by show p < _; omega)).trans h2, (hb.cell (p := ⟨q, 0, none⟩) (by show q < _; omega)).trans h3, (hb.cell (p := ⟨q, 1, none⟩) (by show q < _; omega)).trans h4, h5, h6⟩
theorem kb_alloc (o : Obj) (h : Below B.heap.size B (W) ∧ (W).cell? ⟨p, 0, none⟩ = some x0 ∧ (W).cell? ⟨p, 1, none⟩ = some x1 ∧ (W).cell? ⟨q, 0, none⟩ = some y0 ∧ (W).cell? ⟨q, 1, none⟩ = some y1 ∧ p < B.heap.size ∧ q < B.heap.size) : Below B.heap.size B (W.alloc o) ∧ (W.alloc o).cell? ⟨p, 0, none⟩ = some x0 ∧ (W.alloc o).cell? ⟨p, 1, none⟩ = some x1 ∧ (W.alloc o).cell? ⟨q, 0, none⟩ = some y0 ∧ (W.alloc o).cell? ⟨q, 1, none⟩ = some y1 ∧ p < B.heap.size ∧ q < B.heap.size := kb_call (zboxed W o) h
theorem kb_drew (h : Below B.heap.size B (W) ∧ (W).cell? ⟨p, 0, none⟩ = some x0 ∧ (W).cell? ⟨p, 1, none⟩ = some x1 ∧ (W).cell? ⟨q, 0, none⟩ = some y0 ∧ (W).cell? ⟨q, 1, none⟩ = some y1 ∧ p < B.heap.size ∧ q < B.heap.size) : Below B.heap.size B (W.drew) ∧ (W.drew).cell? ⟨p, 0, none⟩ = some x0 ∧ (W.drew).cell? ⟨p, 1, none⟩ = some x1 ∧ (W.drew).cell? ⟨q, 0, none⟩ = some y0 ∧ (W.drew).cell? ⟨q, 1, none⟩ = some y1 ∧ p < B.heap.size ∧ q < B.heap.size := kb_call (Below.refl _ _).drew h
theorem kb_set {a : Addr} (u : Value) (ha : B.heap.size ≤ a.block) (h : Below B.heap.size B (W) ∧ (W).cell? ⟨p, 0, none⟩ = some x0 ∧ (W).cell? ⟨p, 1, none⟩ = some x1 ∧ (W).cell? ⟨q, 0, none⟩ = some y0 ∧ (W).cell? ⟨q, 1, none⟩ = some y1 ∧ p < B.heap.size ∧ q < B.heap.size) : Below B.heap.size B (W.setCell a u) ∧ (W.setCell a u).cell? ⟨p, 0, none⟩ = some x0 ∧ (W.setCell a u).cell? ⟨p, 1, none⟩ = some x1 ∧ (W.setCell a u).cell? ⟨q, 0, none⟩ = some y0 ∧ (W.setCell a u).cell? ⟨q, 1, none⟩ = some y1 ∧ p < B.heap.size ∧ q < B.heap.size := by
  obtain ⟨h0, h1, h2, h3, h4, h5, h6⟩ := h
  refine ⟨h0.setCell ha u, ?_, ?_, ?_, ?_, h5, h6⟩
  · rw [World.cell?_setCell_other W a ⟨p, 0, none⟩ u (fun e => by rw [e] at ha; dsimp only at ha; omega)]; exact h1
  · rw [World.cell?_setCell_other W a ⟨p, 1, none⟩ u (fun e => by rw [e] at ha; dsimp only at ha; omega)]; exact h2
  · rw [World.cell?_setCell_other W a ⟨q, 0, none⟩ u (fun e => by rw [e] at ha; dsimp only at ha; omega)]; exact h3
  · rw [World.cell?_setCell_other W a ⟨q, 1, none⟩ u (fun e => by rw [e] at ha; dsimp only at ha; omega)]; exact h4
end
theorem duo_here {Y : World} {g : Nat} {p q : Value} (hg : Y.heap.size = g) : Duo (Y.alloc (.cells #[p, q] 28)) g 28 p q := by
  subst hg; exact Duo.new _ _ _ _
/-- Block g holds two variables, whatever they hold. -/
def Z2 (W : World) (g : Nat) : Prop := ∃ p q : Value, Duo W g 28 p q
theorem Z2.below {W W' : World} {g : Nat} (h : Z2 W g) (hb : Below W.heap.size W W') : Z2 W' g := let ⟨p, q, d⟩ := h; ⟨p, q, d.below hb⟩
theorem Z2.lt {W : World} {g : Nat} (h : Z2 W g) : g < W.heap.size := let ⟨_, _, d⟩ := h; d.lt
theorem Z2.put {W : World} {g : Nat} {x y : Value} (h : Z2 W g) : Duo ((W.setCell ⟨g, 0, none⟩ x).setCell ⟨g, 1, none⟩ y) g 28 x y := let ⟨_, _, d⟩ := h; (d.set0 x).set1 y
theorem Z2.other {W : World} {g : Nat} (h : Z2 W g) {a : Addr} (hne : g ≠ a.block) (u : Value) : Z2 (W.setCell a u) g := let ⟨p, q, d⟩ := h; ⟨p, q, d.other hne u⟩
theorem zput {W : World} {base m g : Nat} {R : Option Mat} {v : Value} (h : ZRes W base m R v) (hd : Z2 W g) (s t : Value) : ZRes ((W.setCell ⟨g, 0, none⟩ s).setCell ⟨g, 1, none⟩ t) base m R v := by
  cases R with
  | none => exact h
  | some C =>
    obtain ⟨hc, g', cap, e, ho⟩ := h
    obtain ⟨p, q, d⟩ := hd
    have o1 := ho.kept (duo_grown_setCell W ⟨g, 0, none⟩ s) (.inr (d.not_row (by decide) ho).symm)
    have o2 := o1.kept (duo_grown_setCell _ ⟨g, 1, none⟩ t) (.inr ((d.set0 s).not_row (by decide) o1).symm)
    exact ⟨hc, g', cap, e, o2⟩
def KB (B : World) (p q : Nat) (x0 x1 y0 y1 : Value) (W : World) : Prop := Below B.heap.size B (W) ∧ (W).cell? ⟨p, 0, none⟩ = some x0 ∧ (W).cell? ⟨p, 1, none⟩ = some x1 ∧ (W).cell? ⟨q, 0, none⟩ = some y0 ∧ (W).cell? ⟨q, 1, none⟩ = some y1 ∧ p < B.heap.size ∧ q < B.heap.size
theorem KB.conj {B W : World} {p q : Nat} {x0 x1 y0 y1 : Value} (h : KB B p q x0 x1 y0 y1 W) : Below B.heap.size B (W) ∧ (W).cell? ⟨p, 0, none⟩ = some x0 ∧ (W).cell? ⟨p, 1, none⟩ = some x1 ∧ (W).cell? ⟨q, 0, none⟩ = some y0 ∧ (W).cell? ⟨q, 1, none⟩ = some y1 ∧ p < B.heap.size ∧ q < B.heap.size := h
/-- Between the calls: what is loaded; the new variables that there are; what the calls made. -/
structure ST (B : World) (p q : Nat) (x0 x1 y0 y1 : Value) (ma mb : Nat) (Ra Rb : Option Mat) (g1 g2 : Option Nat) (r3 r6 : Option (Option Addr × Nat)) (W : World) : Prop where
  s : KB B p q x0 x1 y0 y1 W
  one : ∀ g, g1 = some g → Z2 W g ∧ B.heap.size ≤ g
  two : ∀ g, g2 = some g → Z2 W g ∧ B.heap.size ≤ g
  ne : ∀ g h, g1 = some g → g2 = some h → g ≠ h
  a3 : ∀ x, r3 = some x → ∃ base, ZRes W base ma Ra (zoneV ((ma : Int) - 1) x.1 (rlen ma Ra) x.2)
  a6 : ∀ x, r6 = some x → ∃ base, ZRes W base mb Rb (zoneV ((mb : Int) - 1) x.1 (rlen mb Rb) x.2)
section
variable {B W W1 : World} {p q : Nat} {x0 x1 y0 y1 u0 u1 v0 v1 : Value} {ma mb : Nat} {Ra Rb : Option Mat} {g1 g2 : Option Nat} {r3 r6 : Option (Option Addr × Nat)} {g : Nat}
theorem st_new (h : KB B p q x0 x1 y0 y1 W) : ST B p q x0 x1 y0 y1 ma mb Ra Rb none none none none W := ⟨h, fun _ e => (by cases e), fun _ e => (by cases e), fun _ _ e => (by cases e), fun _ e => (by cases e), fun _ e => (by cases e)⟩
theorem ST.below (h : ST B p q x0 x1 y0 y1 ma mb Ra Rb g1 g2 r3 r6 W) (hb : Below W.heap.size W W1) : ST B p q x0 x1 y0 y1 ma mb Ra Rb g1 g2 r3 r6 W1 :=
  ⟨kb_call hb h.s, fun g e => ⟨(h.one g e).1.below hb, (h.one g e).2⟩, fun g e => ⟨(h.two g e).1.below hb, (h.two g e).2⟩, h.ne, fun x e => let ⟨b, z⟩ := h.a3 x e; ⟨b, z.below hb⟩, fun x e => let ⟨b, z⟩ := h.a6 x e; ⟨b, z.below hb⟩⟩
theorem ST.dr (h : ST B p q x0 x1 y0 y1 ma mb Ra Rb g1 g2 r3 r6 W) : ST B p q x0 x1 y0 y1 ma mb Ra Rb g1 g2 r3 r6 W.drew := h.below (Below.refl _ _).drew
theorem ST.up (h : ST B p q x0 x1 y0 y1 ma mb Ra Rb g1 g2 r3 r6 W) (o : Obj) : ST B p q x0 x1 y0 y1 ma mb Ra Rb g1 g2 r3 r6 (W.alloc o) := h.below (zboxed W o)
theorem ST.mk1 (h : ST B p q x0 x1 y0 y1 ma mb Ra Rb none none r3 r6 W) : ST B p q x0 x1 y0 y1 ma mb Ra Rb (some W.heap.size) none r3 r6 (W.alloc (.cells #[u0, u1] 28)) :=
  have u := h.up (.cells #[u0, u1] 28)
  ⟨u.s, fun g e => by cases e; exact ⟨⟨u0, u1, Duo.new _ _ _ _⟩, h.s.1.size⟩, u.two, fun _ _ _ e => (by cases e), u.a3, u.a6⟩
theorem ST.mk2 (h : ST B p q x0 x1 y0 y1 ma mb Ra Rb (some g) none r3 r6 W) : ST B p q x0 x1 y0 y1 ma mb Ra Rb (some g) (some W.heap.size) r3 r6 (W.alloc (.cells #[u0, u1] 28)) :=
  have u := h.up (.cells #[u0, u1] 28)
  ⟨u.s, u.one, fun g e => by cases e; exact ⟨⟨u0, u1, Duo.new _ _ _ _⟩, h.s.1.size⟩, fun a b e1 e2 => by
    cases e1
    cases e2
    exact Nat.ne_of_lt (h.one _ rfl).1.lt, u.a3, u.a6⟩
theorem ST.mka {h2 : Option Nat} (h : ST B p q x0 x1 y0 y1 ma mb Ra Rb none h2 r3 r6 W) : ST B p q x0 x1 y0 y1 ma mb Ra Rb (some W.heap.size) h2 r3 r6 (W.alloc (.cells #[u0, u1] 28)) :=
  have u := h.up (.cells #[u0, u1] 28)
  ⟨u.s, fun g e => by cases e; exact ⟨⟨u0, u1, Duo.new _ _ _ _⟩, h.s.1.size⟩, u.two, fun a b e1 e2 => by
    cases e1
    exact (Nat.ne_of_lt (h.two _ e2).1.lt).symm, u.a3, u.a6⟩
theorem ST.mkb {h1 : Option Nat} (h : ST B p q x0 x1 y0 y1 ma mb Ra Rb h1 none r3 r6 W) : ST B p q x0 x1 y0 y1 ma mb Ra Rb h1 (some W.heap.size) r3 r6 (W.alloc (.cells #[u0, u1] 28)) :=
  have u := h.up (.cells #[u0, u1] 28)
  ⟨u.s, u.one, fun g e => by cases e; exact ⟨⟨u0, u1, Duo.new _ _ _ _⟩, h.s.1.size⟩, fun a b e1 e2 => by
    cases e2
    exact Nat.ne_of_lt (h.one _ e1).1.lt, u.a3, u.a6⟩
theorem ST.mk1d (h : ST B p q x0 x1 y0 y1 ma mb Ra Rb none none r3 r6 W) : ST B p q x0 x1 y0 y1 ma mb Ra Rb (some W.heap.size) none r3 r6 (W.alloc (.cells #[u0, u1] 28)).drew := h.mk1.dr
theorem ST.mk12x (h : ST B p q x0 x1 y0 y1 ma mb Ra Rb none none r3 r6 W) : ST B p q x0 x1 y0 y1 ma mb Ra Rb (some W.heap.size) (some (W.heap.size + 1)) r3 r6 ((W.alloc (.cells #[u0, u1] 28)).alloc (.cells #[v0, v1] 28)) := by
  have := (h.mk1 (u0 := u0) (u1 := u1)).mk2 (u0 := v0) (u1 := v1)
  rw [show (W.alloc (.cells #[u0, u1] 28)).heap.size = W.heap.size + 1 from World.size_alloc _ _] at this
  exact this
theorem ST.mk12 (h : ST B p q x0 x1 y0 y1 ma mb Ra Rb none none r3 r6 W) : ST B p q x0 x1 y0 y1 ma mb Ra Rb (some W.heap.size) (some (W.heap.size + 1)) r3 r6 ((W.alloc (.cells #[u0, u1] 28)).drew.alloc (.cells #[v0, v1] 28)) := by
  have := (h.mk1d (u0 := u0) (u1 := u1)).mk2 (u0 := v0) (u1 := v1)
  rw [show (W.alloc (.cells #[u0, u1] 28)).drew.heap.size = W.heap.size + 1 from World.size_alloc _ _] at this
  exact this
/-- A call that makes nothing of these. -/
theorem st_any {fn : FuncId} {args : Array Value} {r : Value} (K : ∀ W, Below B.heap.size B W → Calls Tryz.prog fn args W fun e w' => e = .returned r ∧ Below W.heap.size W w') (h : ST B p q x0 x1 y0 y1 ma mb Ra Rb g1 g2 r3 r6 W) : Calls Tryz.prog fn args W fun e w' => e = .returned r ∧ ST B p q x0 x1 y0 y1 ma mb Ra Rb g1 g2 r3 r6 w' :=
  (K W h.s.1).mono fun _ _ ⟨he, hb⟩ => ⟨he, h.below hb⟩
theorem st_one {fn : FuncId} {args : Array Value} (K : ∀ W, Below B.heap.size B W → Calls Tryz.prog fn args W (RetC W ma Ra)) (h : ST B p q x0 x1 y0 y1 ma mb Ra Rb g1 g2 none r6 W) : Calls Tryz.prog fn args W fun e w' => ∃ A c, e = .returned (zoneV ((ma : Int) - 1) A (rlen ma Ra) c) ∧ ST B p q x0 x1 y0 y1 ma mb Ra Rb g1 g2 (some (A, c)) r6 w' :=
  (K W h.s.1).mono fun _ _ ⟨A, c, he, hz, hb⟩ => ⟨A, c, he, (h.below hb).s, (h.below hb).one, (h.below hb).two, h.ne, fun x e => by cases e; exact ⟨_, hz⟩, (h.below hb).a6⟩
theorem st_two {fn : FuncId} {args : Array Value} (K : ∀ W, Below B.heap.size B W → Calls Tryz.prog fn args W (RetC W mb Rb)) (h : ST B p q x0 x1 y0 y1 ma mb Ra Rb g1 g2 r3 none W) : Calls Tryz.prog fn args W fun e w' => ∃ A c, e = .returned (zoneV ((mb : Int) - 1) A (rlen mb Rb) c) ∧ ST B p q x0 x1 y0 y1 ma mb Ra Rb g1 g2 r3 (some (A, c)) w' :=
  (K W h.s.1).mono fun _ _ ⟨A, c, he, hz, hb⟩ => ⟨A, c, he, (h.below hb).s, (h.below hb).one, (h.below hb).two, h.ne, (h.below hb).a3, fun x e => by cases e; exact ⟨_, hz⟩⟩
end
/-- Both zones, in variables of their own. -/
structure TwoN (B : World) (ma mb : Nat) (Ra Rb : Option Mat) (s t : Value) (W : World) (g h ba bb : Nat) (A D : Option Addr) (c d : Nat) : Prop where
  es : s = .pointer (some ⟨g, 0, none⟩)
  et : t = .pointer (some ⟨h, 0, none⟩)
  dg : Duo W g 28 (.int .i64 ((ma : Int) - 1)) (.slice A (rlen ma Ra) c)
  dh : Duo W h 28 (.int .i64 ((mb : Int) - 1)) (.slice D (rlen mb Rb) d)
  za : ZRes W ba ma Ra (zoneV ((ma : Int) - 1) A (rlen ma Ra) c)
  zb : ZRes W bb mb Rb (zoneV ((mb : Int) - 1) D (rlen mb Rb) d)
  low : Below B.heap.size B W
def Two (B : World) (ma mb : Nat) (Ra Rb : Option Mat) (s t : Value) (W : World) : Prop := ∃ g h ba bb A D c d, TwoN B ma mb Ra Rb s t W g h ba bb A D c d
section
variable {B W W1 : World} {p q : Nat} {x0 x1 y0 y1 s t : Value} {ma mb g h c d : Nat} {Ra Rb : Option Mat} {A D : Option Addr}
theorem TwoN.below {ba bb : Nat} (x : TwoN B ma mb Ra Rb s t W g h ba bb A D c d) (hb : Below W.heap.size W W1) : TwoN B ma mb Ra Rb s t W1 g h ba bb A D c d :=
  ⟨x.es, x.et, x.dg.below hb, x.dh.below hb, x.za.below hb, x.zb.below hb, x.low.trans (hb.mono x.low.size)⟩
theorem Two.dr (x : Two B ma mb Ra Rb s t W) : Two B ma mb Ra Rb s t W.drew := let ⟨g, h, ba, bb, A, D, c, d, k⟩ := x; ⟨g, h, ba, bb, A, D, c, d, k.below (Below.refl _ _).drew⟩
theorem low2 (hb : Below B.heap.size B W) (hg : B.heap.size ≤ g) (s t : Value) : Below B.heap.size B ((W.setCell ⟨g, 0, none⟩ s).setCell ⟨g, 1, none⟩ t) := (hb.setCell (p := ⟨g, 0, none⟩) hg s).setCell (p := ⟨g, 1, none⟩) hg t
theorem sz2 (W : World) (a b : Addr) (u v : Value) : ((W.setCell a u).setCell b v).heap.size = W.heap.size := by simp [World.setCell]
theorem st_end (S : ST B p q x0 x1 y0 y1 ma mb Ra Rb (some g) (some h) (some (A, c)) (some (D, d)) W) :
    Two B ma mb Ra Rb (.pointer (some ⟨g, 0, none⟩)) (.pointer (some ⟨h, 0, none⟩)) ((((W.setCell ⟨g, 0, none⟩ (.int .i64 ((ma : Int) - 1))).setCell ⟨g, 1, none⟩ (.slice A (rlen ma Ra) c)).setCell ⟨h, 0, none⟩ (.int .i64 ((mb : Int) - 1))).setCell ⟨h, 1, none⟩ (.slice D (rlen mb Rb) d)) := by
  obtain ⟨z1, l1⟩ := S.one _ rfl
  obtain ⟨z2, l2⟩ := S.two _ rfl
  obtain ⟨ba, za⟩ := S.a3 _ rfl
  obtain ⟨bb, zb⟩ := S.a6 _ rfl
  have hne := S.ne _ _ rfl rfl
  have k2 := (z2.other (a := ⟨g, 0, none⟩) hne.symm (.int .i64 ((ma : Int) - 1))).other (a := ⟨g, 1, none⟩) hne.symm (.slice A (rlen ma Ra) c)
  exact ⟨g, h, ba, bb, A, D, c, d, rfl, rfl, (z1.put.other hne _).other hne _, k2.put, zput (zput za z1 _ _) k2 _ _, zput (zput zb z1 _ _) k2 _ _, low2 (low2 S.s.1 l1 _ _) l2 _ _⟩
theorem st_end2 (S : ST B p q x0 x1 y0 y1 ma mb Ra Rb (some g) (some h) (some (A, c)) (some (D, d)) W) :
    Two B ma mb Ra Rb (.pointer (some ⟨h, 0, none⟩)) (.pointer (some ⟨g, 0, none⟩)) ((((W.setCell ⟨h, 0, none⟩ (.int .i64 ((ma : Int) - 1))).setCell ⟨h, 1, none⟩ (.slice A (rlen ma Ra) c)).setCell ⟨g, 0, none⟩ (.int .i64 ((mb : Int) - 1))).setCell ⟨g, 1, none⟩ (.slice D (rlen mb Rb) d)) := by
  obtain ⟨z1, l1⟩ := S.one _ rfl
  obtain ⟨z2, l2⟩ := S.two _ rfl
  obtain ⟨ba, za⟩ := S.a3 _ rfl
  obtain ⟨bb, zb⟩ := S.a6 _ rfl
  have hne := S.ne _ _ rfl rfl
  have k1 := (z1.other (a := ⟨h, 0, none⟩) hne (.int .i64 ((ma : Int) - 1))).other (a := ⟨h, 1, none⟩) hne (.slice A (rlen ma Ra) c)
  exact ⟨h, g, ba, bb, A, D, c, d, rfl, rfl, (z2.put.other hne.symm _).other hne.symm _, k1.put, zput (zput za z2 _ _) k1 _ _, zput (zput zb z2 _ _) k1 _ _, low2 (low2 S.s.1 l2 _ _) l1 _ _⟩
theorem st_end3 (S : ST B p q x0 x1 y0 y1 ma mb Ra Rb (some g) none (some (A, c)) (some (D, d)) W) :
    Two B ma mb Ra Rb (.pointer (some ⟨g, 0, none⟩)) (.pointer (some ⟨W.heap.size, 0, none⟩)) (((W.setCell ⟨g, 0, none⟩ (.int .i64 ((ma : Int) - 1))).setCell ⟨g, 1, none⟩ (.slice A (rlen ma Ra) c)).alloc (.cells #[.int .i64 ((mb : Int) - 1), .slice D (rlen mb Rb) d] 28)) := by
  obtain ⟨z1, l1⟩ := S.one _ rfl
  obtain ⟨ba, za⟩ := S.a3 _ rfl
  obtain ⟨bb, zb⟩ := S.a6 _ rfl
  have lw := low2 S.s.1 l1 (.int .i64 ((ma : Int) - 1)) (.slice A (rlen ma Ra) c)
  exact ⟨g, W.heap.size, ba, bb, A, D, c, d, rfl, rfl, z1.put.alloc _, duo_here (sz2 _ _ _ _ _), (zput za z1 _ _).below (zboxed _ _), (zput zb z1 _ _).below (zboxed _ _), lw.alloc lw.size _⟩
theorem st_end4 (S : ST B p q x0 x1 y0 y1 ma mb Ra Rb (some g) none (some (A, c)) (some (D, d)) W) :
    Two B ma mb Ra Rb (.pointer (some ⟨W.heap.size, 0, none⟩)) (.pointer (some ⟨g, 0, none⟩)) (((W.setCell ⟨g, 0, none⟩ (.int .i64 ((mb : Int) - 1))).setCell ⟨g, 1, none⟩ (.slice D (rlen mb Rb) d)).alloc (.cells #[.int .i64 ((ma : Int) - 1), .slice A (rlen ma Ra) c] 28)) := by
  obtain ⟨z1, l1⟩ := S.one _ rfl
  obtain ⟨ba, za⟩ := S.a3 _ rfl
  obtain ⟨bb, zb⟩ := S.a6 _ rfl
  have lw := low2 S.s.1 l1 (.int .i64 ((mb : Int) - 1)) (.slice D (rlen mb Rb) d)
  exact ⟨W.heap.size, g, ba, bb, A, D, c, d, rfl, rfl, duo_here (sz2 _ _ _ _ _), z1.put.alloc _, (zput za z1 _ _).below (zboxed _ _), (zput zb z1 _ _).below (zboxed _ _), lw.alloc lw.size _⟩
theorem st_end5 (S : ST B p q x0 x1 y0 y1 ma mb Ra Rb none none (some (A, c)) (some (D, d)) W) :
    Two B ma mb Ra Rb (.pointer (some ⟨W.heap.size, 0, none⟩)) (.pointer (some ⟨W.heap.size + 1, 0, none⟩)) ((W.alloc (.cells #[.int .i64 ((ma : Int) - 1), .slice A (rlen ma Ra) c] 28)).alloc (.cells #[.int .i64 ((mb : Int) - 1), .slice D (rlen mb Rb) d] 28)) := by
  obtain ⟨ba, za⟩ := S.a3 _ rfl
  obtain ⟨bb, zb⟩ := S.a6 _ rfl
  exact ⟨W.heap.size, W.heap.size + 1, ba, bb, A, D, c, d, rfl, rfl, (Duo.new _ _ _ _).alloc _, duo_here (World.size_alloc _ _), (za.below (zboxed _ _)).below (zboxed _ _), (zb.below (zboxed _ _)).below (zboxed _ _), (S.s.1.alloc S.s.1.size _).alloc (by rw [World.size_alloc]; have := S.s.1.size; omega) _⟩
theorem st_end6 (S : ST B p q x0 x1 y0 y1 ma mb Ra Rb none none (some (A, c)) (some (D, d)) W) :
    Two B ma mb Ra Rb (.pointer (some ⟨W.heap.size + 1, 0, none⟩)) (.pointer (some ⟨W.heap.size, 0, none⟩)) ((W.alloc (.cells #[.int .i64 ((mb : Int) - 1), .slice D (rlen mb Rb) d] 28)).alloc (.cells #[.int .i64 ((ma : Int) - 1), .slice A (rlen ma Ra) c] 28)) := by
  obtain ⟨ba, za⟩ := S.a3 _ rfl
  obtain ⟨bb, zb⟩ := S.a6 _ rfl
  exact ⟨W.heap.size + 1, W.heap.size, ba, bb, A, D, c, d, rfl, rfl, duo_here (World.size_alloc _ _), (Duo.new _ _ _ _).alloc _, (za.below (zboxed _ _)).below (zboxed _ _), (zb.below (zboxed _ _)).below (zboxed _ _), (S.s.1.alloc S.s.1.size _).alloc (by rw [World.size_alloc]; have := S.s.1.size; omega) _⟩
end
end Go.Proofs.YtimckaphmfidhaaGreatDoor.Nz
