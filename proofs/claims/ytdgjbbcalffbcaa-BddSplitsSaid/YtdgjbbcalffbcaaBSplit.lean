/- The contract of split, whatever its operation of two is. -/
import Derived.Test.YtdgjbbcalffbcaaBGrowWalk
namespace Go.Proofs.Ytdgjbbcalffbcaa
open Go.RowKit
attribute [local go_sem ↓] Go.wp_at_zero Go.wp_at_succ

/-- The operations of two. -/
def o2 (k : Int) (a b : Bool) : Bool := if k = -1 then a && b else if k = -2 then a || b else a != b
theorem o2_comm (k : Int) (a b : Bool) : o2 k a b = o2 k b a := by unfold o2; cases a <;> cases b <;> rfl
theorem keyF_two (L : List Nd) {k : Int} (hk : k = -1 ∨ k = -2 ∨ k = -3) (f g : Int) (b : Nat) : keyF L (k, f, g) b = o2 k (fn L f b) (fn L g b) := by
  rcases hk with rfl | rfl | rfl <;> rfl
theorem RetOp.from_below {F : Nat → Bool} {v m lim : Nat} {own : Nat → Prop} {L : List Nd} {W W1 : World} {e : Ending} {w' : World} (h : RetOp F v own m lim L W1 e w') (hb : Below W.heap.size W W1) : RetOp F v own m lim L W e w' := by
  obtain ⟨own', L', h1, h2, h3⟩ := h
  exact ⟨own', L', h1, (Went.of_below hb own).trans h2, h3⟩
theorem RetOp.fn_eq {F G : Nat → Bool} {v m lim : Nat} {own : Nat → Prop} {L : List Nd} {W : World} {e : Ending} {w' : World} (h : RetOp F v own m lim L W e w') (hF : ∀ b, F b = G b) : RetOp G v own m lim L W e w' := by
  have : F = G := funext hF
  rw [← this]; exact h
theorem RetOp.mono {F : Nat → Bool} {v u m lim : Nat} {own : Nat → Prop} {L : List Nd} {W : World} {e : Ending} {w' : World} (h : RetOp F v own m lim L W e w') (hu : u ≤ v) : RetOp F u own m lim L W e w' := by
  obtain ⟨own', L', h1, h2, h3, h4⟩ := h
  exact ⟨own', L', h1, h2, h3.mono hu, h4⟩
/-- An operation of two, of refs of variables from v on. -/
def Does2 (ko : FuncId) (k : Int) (m lim v : Nat) : Prop := ∀ (W : World) (own : Nat → Prop) (L : List Nd) (f g : Int), Mg W own m lim L → InB L.length f → InB L.length g → (v : Int) ≤ varP L f → (v : Int) ≤ varP L g →
  Calls Try.prog ko #[.pointer (some ⟨m, 0, none⟩), .int .i64 f, .int .i64 g] W (RetOp (fun b => o2 k (fn L f b) (fn L g b)) v own m lim L W)
/-- The cells that a closure holds. -/
def Five (w : World) (b1 b2 b3 b4 b5 : Nat) (x1 x2 x3 x4 x5 : Value) : Prop :=
  (b1 < w.heap.size ∧ b2 < w.heap.size ∧ b3 < w.heap.size ∧ b4 < w.heap.size ∧ b5 < w.heap.size) ∧ w.cell? ⟨b1, 0, none⟩ = some x1 ∧ w.cell? ⟨b2, 0, none⟩ = some x2 ∧ w.cell? ⟨b3, 0, none⟩ = some x3 ∧ w.cell? ⟨b4, 0, none⟩ = some x4 ∧ w.cell? ⟨b5, 0, none⟩ = some x5
theorem Five.below {w w1 : World} {b1 b2 b3 b4 b5 : Nat} {x1 x2 x3 x4 x5 : Value} (hb : Below w.heap.size w w1) (h : Five w b1 b2 b3 b4 b5 x1 x2 x3 x4 x5) : Five w1 b1 b2 b3 b4 b5 x1 x2 x3 x4 x5 := by
  obtain ⟨⟨h1, h2, h3, h4, h5⟩, c1, c2, c3, c4, c5⟩ := h
  have := hb.size
  exact ⟨⟨by omega, by omega, by omega, by omega, by omega⟩, (hb.cell (p := ⟨b1, 0, none⟩) h1).trans c1, (hb.cell (p := ⟨b2, 0, none⟩) h2).trans c2, (hb.cell (p := ⟨b3, 0, none⟩) h3).trans c3, (hb.cell (p := ⟨b4, 0, none⟩) h4).trans c4, (hb.cell (p := ⟨b5, 0, none⟩) h5).trans c5⟩
theorem Five.went {w w1 : World} {own own1 : Nat → Prop} {b1 b2 b3 b4 b5 : Nat} {x1 x2 x3 x4 x5 : Value} (q : Went own w own1 w1) (hn : ¬ own b1 ∧ ¬ own b2 ∧ ¬ own b3 ∧ ¬ own b4 ∧ ¬ own b5) (h : Five w b1 b2 b3 b4 b5 x1 x2 x3 x4 x5) : Five w1 b1 b2 b3 b4 b5 x1 x2 x3 x4 x5 := by
  obtain ⟨⟨h1, h2, h3, h4, h5⟩, c1, c2, c3, c4, c5⟩ := h
  have := q.size
  exact ⟨⟨by omega, by omega, by omega, by omega, by omega⟩, (q.cell h1 hn.1).trans c1, (q.cell h2 hn.2.1).trans c2, (q.cell h3 hn.2.2.1).trans c3, (q.cell h4 hn.2.2.2.1).trans c4, (q.cell h5 hn.2.2.2.2).trans c5⟩
theorem keep_five {w w1 : World} (hb : Below w.heap.size w w1) {b1 b2 b3 b4 b5 : Nat} {x1 x2 x3 x4 x5 : Value} (h : (b1 < w.heap.size ∧ b2 < w.heap.size ∧ b3 < w.heap.size ∧ b4 < w.heap.size ∧ b5 < w.heap.size) ∧ w.cell? ⟨b1, 0, none⟩ = some x1 ∧ w.cell? ⟨b2, 0, none⟩ = some x2 ∧ w.cell? ⟨b3, 0, none⟩ = some x3 ∧ w.cell? ⟨b4, 0, none⟩ = some x4 ∧ w.cell? ⟨b5, 0, none⟩ = some x5) :
    (b1 < w1.heap.size ∧ b2 < w1.heap.size ∧ b3 < w1.heap.size ∧ b4 < w1.heap.size ∧ b5 < w1.heap.size) ∧ w1.cell? ⟨b1, 0, none⟩ = some x1 ∧ w1.cell? ⟨b2, 0, none⟩ = some x2 ∧ w1.cell? ⟨b3, 0, none⟩ = some x3 ∧ w1.cell? ⟨b4, 0, none⟩ = some x4 ∧ w1.cell? ⟨b5, 0, none⟩ = some x5 := Five.below hb h
theorem went_five {w w1 : World} {own own1 : Nat → Prop} (q : Went own w own1 w1) {b1 b2 b3 b4 b5 : Nat} (hn : ¬ own b1 ∧ ¬ own b2 ∧ ¬ own b3 ∧ ¬ own b4 ∧ ¬ own b5) {x1 x2 x3 x4 x5 : Value} (h : (b1 < w.heap.size ∧ b2 < w.heap.size ∧ b3 < w.heap.size ∧ b4 < w.heap.size ∧ b5 < w.heap.size) ∧ w.cell? ⟨b1, 0, none⟩ = some x1 ∧ w.cell? ⟨b2, 0, none⟩ = some x2 ∧ w.cell? ⟨b3, 0, none⟩ = some x3 ∧ w.cell? ⟨b4, 0, none⟩ = some x4 ∧ w.cell? ⟨b5, 0, none⟩ = some x5) :
    (b1 < w1.heap.size ∧ b2 < w1.heap.size ∧ b3 < w1.heap.size ∧ b4 < w1.heap.size ∧ b5 < w1.heap.size) ∧ w1.cell? ⟨b1, 0, none⟩ = some x1 ∧ w1.cell? ⟨b2, 0, none⟩ = some x2 ∧ w1.cell? ⟨b3, 0, none⟩ = some x3 ∧ w1.cell? ⟨b4, 0, none⟩ = some x4 ∧ w1.cell? ⟨b5, 0, none⟩ = some x5 := Five.went q hn h
section
variable {W : World} {own : Nat → Prop} {m lim : Nat} {L : List Nd}
set_option maxRecDepth 100000 in
set_option maxHeartbeats 3200000 in
theorem split1_any (h : Mg W own m lim L) {k f g : Int} {t ko : Nat} (eko : ∀ args w, (callFunc ko args).run Try.prog w = .ok (.enter ko args) w) (hop : Does2 ko k m lim (t + 1)) (ht : t < 12) (hf : InB L.length f) (hg : InB L.length g) (tf : (t : Int) ≤ varP L f) (tg : (t : Int) ≤ varP L g)
    {b1 b2 b3 b4 b5 : Nat} (h5 : Five W b1 b2 b3 b4 b5 (.func (.func ko) #[.pointer (some ⟨m, 0, none⟩)] #[]) (.pointer (some ⟨m, 0, none⟩)) (.int .i64 f) (.int .i64 t) (.int .i64 g)) (hn : ¬ own b1 ∧ ¬ own b2 ∧ ¬ own b3 ∧ ¬ own b4 ∧ ¬ own b5) (on : Bool) :
    Calls Try.prog 73 #[.bool on, .pointer (some ⟨b1, 0, none⟩), .pointer (some ⟨b2, 0, none⟩), .pointer (some ⟨b3, 0, none⟩), .pointer (some ⟨b4, 0, none⟩), .pointer (some ⟨b5, 0, none⟩)] W
      (RetOp (fun b => o2 k (fn L (halfP L f t on) b) (fn L (halfP L g t on) b)) (t + 1) own m lim L W) := by
  have hR := h.right
  have hA := h.bools
  have HH1 : Hid (∀ w, Below W.heap.size W w → Calls Try.prog 64 #[.pointer (some ⟨m, 0, none⟩), .int .i64 f, .int .i64 t, .bool on] w (RetI (halfP L f t on) w)) := Lib.hid fun w hw => half_any (h.below hw) f t on
  have HH2 : Hid (∀ w, Below W.heap.size W w → Calls Try.prog 64 #[.pointer (some ⟨m, 0, none⟩), .int .i64 g, .int .i64 t, .bool on] w (RetI (halfP L g t on) w)) := Lib.hid fun w hw => half_any (h.below hw) g t on
  have HO : Hid (∀ w, Below W.heap.size W w → Calls Try.prog ko #[.pointer (some ⟨m, 0, none⟩), .int .i64 (halfP L f t on), .int .i64 (halfP L g t on)] w (RetOp (fun b => o2 k (fn L (halfP L f t on) b) (fn L (halfP L g t on) b)) (t + 1) own m lim L W)) :=
    Lib.hid fun w hw => (hop w own L _ _ (h.below hw) (half_in hR hA hf _ _) (half_in hR hA hg _ _) (half_var hR hA hf tf ht on) (half_var hR hA hg tg ht on)).mono fun _ _ hr => hr.from_below hw
  have hb0 : Below W.heap.size W W.drew := (Below.refl _ _).drew
  have K0 : Hid ((b1 < W.drew.heap.size ∧ b2 < W.drew.heap.size ∧ b3 < W.drew.heap.size ∧ b4 < W.drew.heap.size ∧ b5 < W.drew.heap.size) ∧ W.drew.cell? ⟨b1, 0, none⟩ = some (.func (.func ko) #[.pointer (some ⟨m, 0, none⟩)] #[]) ∧ W.drew.cell? ⟨b2, 0, none⟩ = some (.pointer (some ⟨m, 0, none⟩)) ∧ W.drew.cell? ⟨b3, 0, none⟩ = some (.int .i64 f) ∧ W.drew.cell? ⟨b4, 0, none⟩ = some (.int .i64 t) ∧ W.drew.cell? ⟨b5, 0, none⟩ = some (.int .i64 g)) := Lib.hid (h5.below hb0)
  have HB0 := Lib.hid hb0
  have HW : Hid ((b1 < W.heap.size ∧ b2 < W.heap.size ∧ b3 < W.heap.size ∧ b4 < W.heap.size ∧ b5 < W.heap.size) ∧ W.cell? ⟨b1, 0, none⟩ = some (.func (.func ko) #[.pointer (some ⟨m, 0, none⟩)] #[]) ∧ W.cell? ⟨b2, 0, none⟩ = some (.pointer (some ⟨m, 0, none⟩)) ∧ W.cell? ⟨b3, 0, none⟩ = some (.int .i64 f) ∧ W.cell? ⟨b4, 0, none⟩ = some (.int .i64 t) ∧ W.cell? ⟨b5, 0, none⟩ = some (.int .i64 g)) := Lib.hid h5
  have HN := Lib.hid hn
  generalize halfP L f t on = f' at *
  generalize halfP L g t on = g' at *
  clear h hop hf hg tf tg h5 hn hb0
  go_enter Try.func73, Try.ntmps73
  go_wp2_with fail
  go_region_held3 (fun w => ((b1 < w.heap.size ∧ b2 < w.heap.size ∧ b3 < w.heap.size ∧ b4 < w.heap.size ∧ b5 < w.heap.size) ∧ w.cell? ⟨b1, 0, none⟩ = some (.func (.func ko) #[.pointer (some ⟨m, 0, none⟩)] #[]) ∧ w.cell? ⟨b2, 0, none⟩ = some (.pointer (some ⟨m, 0, none⟩)) ∧ w.cell? ⟨b3, 0, none⟩ = some (.int .i64 f) ∧ w.cell? ⟨b4, 0, none⟩ = some (.int .i64 t) ∧ w.cell? ⟨b5, 0, none⟩ = some (.int .i64 g)))
    (first | (with_reducible exact K0.out) | (with_reducible exact went_five q3 HN.out HW.out) | (with_reducible exact keep_five hb2 (keep_five hb1 K0.out)) | (with_reducible exact keep_five hb1 K0.out))
    (first
      | (go_at_call 64; ((with_reducible refine (HH2.out w1 HB1.out).mono ?_); rintro e w2 ⟨rfl, hb2⟩); have HB2 := Lib.hid (HB1.out.trans (hb2.mono HB1.out.size)))
      | (go_at_call 64; ((with_reducible refine (HH1.out _ HB0.out).mono ?_); rintro e w1 ⟨rfl, hb1⟩); have HB1 := Lib.hid (HB0.out.trans (hb1.mono HB0.out.size)))
      | (go_at_fn ko; ((with_reducible refine (HO.out _ HB2.out).mono ?_); rintro e w3 ⟨own3, L3, h3, q3, g3, x3, ev3, rfl, hev⟩)))
  go_wp2_with fail
  go_ret2
  exact ⟨own3, L3, h3, q3, g3, x3, ev3, rfl, hev⟩
end
end Go.Proofs.Ytdgjbbcalffbcaa
